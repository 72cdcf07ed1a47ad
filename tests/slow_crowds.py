"""A crowd played process by process, as [49] tells it, and what can be said of it then."""


class Played:
    """Where each process is, how often each lock is free, and what each buffer holds."""

    def __init__(self, crowd):
        self.crowd = crowd
        self.processes = [(kind, place) for kind, (_, starts, _) in enumerate(crowd.kinds)
                          for place, many in enumerate(starts) for _ in range(many)]
        self.free = [1] * crowd.locks
        self.held = [0] * len(crowd.buffers)

    def goes_on(self, kind, number):
        """Go on by a row of a kind, if that can be done; whether it could."""
        start, acts, end = self.crowd.kinds[kind][2][number]
        if (kind, start) not in self.processes:
            return False
        for act in acts:
            if act[0] == "take" and self.free[act[1]] < 1:
                return False
            if act[0] == "put":
                room = self.crowd.buffers[act[1]]
                if room is not None and self.held[act[1]] >= room:
                    return False
            if act[0] == "get" and self.held[act[1]] < 1:
                return False
        self.processes.remove((kind, start))
        self.processes.append((kind, end))
        for act in acts:
            if act[0] == "take":
                self.free[act[1]] -= 1
            elif act[0] == "free":
                self.free[act[1]] += 1
            elif act[0] == "put":
                self.held[act[1]] += 1
            elif act[0] == "get":
                self.held[act[1]] -= 1
            else:
                self.processes.append((act[1], act[2]))
        return True

    def counted(self):
        """What the counters of the crowd's program say of this."""
        numbers = [self.processes.count((kind, place))
                   for kind, (places, _, _) in enumerate(self.crowd.kinds)
                   for place in range(places)]
        numbers += self.free + self.held
        numbers += [room - held for room, held in zip(self.crowd.buffers, self.held)
                    if room is not None]
        return tuple(numbers)

    def can_go_on(self, kind, number):
        other = Played(self.crowd)
        other.processes = list(self.processes)
        other.free, other.held = list(self.free), list(self.held)
        return other.goes_on(kind, number)


def drawn_crowd(chance):
    """A crowd by chance, with at most 8 counters."""
    from numberwall.processes import Crowd

    while True:
        places = [chance.randint(1, 3) for _ in range(chance.randint(1, 4))]
        locks = chance.randrange(3)
        buffers = [chance.choice((None, 0, 1, 2, 3)) for _ in range(chance.randrange(3))]
        rooms = [room for room in buffers if room is not None]
        if sum(places) + locks + len(buffers) + len(rooms) <= 8:
            break
    kinds = []
    for many in places:
        rows = []
        for _ in range(chance.randrange(5)):
            acts = [("take", k) for k in range(locks) if chance.random() < 0.3]
            acts += [("free", k) for k in range(locks) if chance.random() < 0.3]
            for b in range(len(buffers)):
                word = chance.choice(("put", "get", None, None))
                if word is not None:
                    acts.append((word, b))
            while chance.random() < 0.15:
                kind = chance.randrange(len(places))
                acts.append(("new", kind, chance.randrange(places[kind])))
            chance.shuffle(acts)
            rows.append((chance.randrange(many), acts, chance.randrange(many)))
        kinds.append((many, [chance.randrange(3) for _ in range(many)], rows))
    return Crowd(kinds, locks, buffers)
