"""What lots are by their words alone: slowly, and in other ways than the package's."""

import itertools

from numberwall.lots import Lot


def drawn_lot(chance, counters, locations, states):
    """A Lot of just so many states, by chance."""
    good = [chance.random() < 0.5 for _ in range(states)]
    moves = []
    for state in range(states):
        alike = [there for there in range(states) if good[there] == good[state]]
        moves.append([chance.choice(alike)]
                     + [chance.randrange(states) for _ in range(2 ** counters - 1)])
    return Lot(counters, moves, good, [chance.randrange(states) for _ in range(locations)])


def rows(counters, bits):
    return itertools.product(range(2 ** bits), repeat=counters)


def configurations(counters, locations, bits):
    return [(location, x) for location in range(locations) for x in rows(counters, bits)]


def slow_in(lot, configuration):
    """Whether a configuration is in, read bit by bit, with some columns 0 behind."""
    location, x = configuration
    state = lot.begins[location]
    x = list(x)
    for _ in range(max((len(bin(number)) for number in x), default=0)):
        column = 0
        for counter, number in enumerate(x):
            column += (number % 2) * 2 ** counter
            x[counter] = number // 2
        state = lot.moves[state][column]
    return lot.good[state]


def order_of(configuration):
    """By this key configurations stand in the order of [18]."""
    location, x = configuration
    length = max((number.bit_length() for number in x), default=0)
    word = tuple(sum((number // 2 ** place % 2) * 2 ** counter for counter, number in enumerate(x))
                 for place in range(length))
    return (length, location, word)


def slow_least(lot):
    """The least form: unlike pairs are marked until there are no more, the rest is merged."""
    states = range(len(lot.moves))
    unlike = {(p, q) for p in states for q in states if lot.good[p] != lot.good[q]}
    many = -1
    while len(unlike) != many:
        many = len(unlike)
        unlike |= {(p, q) for p in states for q in states
                   if any(pair in unlike for pair in zip(lot.moves[p], lot.moves[q]))}
    first = {q: min(p for p in states if (p, q) not in unlike) for q in states}
    order = []
    todo = [first[q] for q in lot.begins]
    for q in todo:
        if q not in order:
            order.append(q)
    for q in order:
        for there in lot.moves[q]:
            if first[there] not in order:
                order.append(first[there])
    moves = [[order.index(first[there]) for there in lot.moves[q]] for q in order]
    return Lot(lot.counters, moves, [lot.good[q] for q in order],
               [order.index(first[q]) for q in lot.begins])


def renamed(chance, lot):
    """The same with states numbered anew, by chance, some doubled, some never come to."""
    old = list(range(len(lot.moves)))
    copies = old + [chance.choice(old) for _ in range(3)]
    chance.shuffle(copies)

    def one_of(state):
        return chance.choice([new for new, copied in enumerate(copies) if copied == state])

    moves = [[one_of(there) for there in lot.moves[q]] for q in copies]
    return Lot(lot.counters, moves, [lot.good[q] for q in copies],
               [one_of(q) for q in lot.begins])
