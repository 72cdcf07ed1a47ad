"""The wrong column of a line, found sign by sign: all ways to read a line are tried at once.

It shares nothing with the package: every part tells the set of all (place, known names) to which
it may lead, and the greatest place to which any way led is one less than the wrong column.
"""

WORDS = ("program counters locations step start goal end to takes gives and or not some mod "
         "never by").split()
RUN = "abcdefghijklmnopqrstuvwxyz0123456789_"


class Slow:
    def __init__(self, line):
        self.line = line
        self.far = 0
        self.wrong_names = []

    def column(self, ends):
        """None if some way ends the line, otherwise the wrong column."""
        if self.wrong_names:
            return min(self.wrong_names + [self.far]) + 1
        if any(at == len(self.line) for at, _ in ends):
            return None
        return self.far + 1

    def sign(self, at, sign):
        for many, one in enumerate(sign):
            if self.line[at + many:at + many + 1] != one:
                return set()
            self.far = max(self.far, at + many + 1)
        return {at + len(sign)}

    def gap(self, at, is_word):
        ends = set()
        if not (is_word and at > 0 and self.line[at - 1] in RUN and at < len(self.line)):
            ends.add(at)
        while self.line[at:at + 1] == " ":
            at += 1
            self.far = max(self.far, at)
            ends.add(at)
        return ends

    def word(self, at, word):
        ends = set()
        for begin in self.gap(at, True):
            ends |= self.sign(begin, word)
        return {end for end in ends if self.line[end:end + 1] not in tuple(RUN)}

    def name(self, at, is_wanted):
        ends = set()
        for begin in self.gap(at, True):
            end = begin
            while end < len(self.line) and self.line[end] in RUN:
                end += 1
            run = self.line[begin:end]
            if run == "" or run[0] not in RUN[:26]:
                continue
            self.far = max(self.far, begin + min(12, len(run)))
            if len(run) > 12 or run in WORDS:
                continue
            if is_wanted(run):
                ends.add((end, run))
            else:
                self.wrong_names.append(begin)
        return ends

    def number(self, at, least):
        ends = set()
        rights = [str(number) for number in range(least, 100)]
        for begin in self.gap(at, True):
            for right in rights:
                many = 0
                while many < len(right) and self.line[begin + many:begin + many + 1] == right[many]:
                    many += 1
                    self.far = max(self.far, begin + many)
                end = begin + len(right)
                if many == len(right) and self.line[end:end + 1] not in tuple(RUN):
                    ends.add(end)
        return ends

    def mark(self, at, sign):
        return {end for begin in self.gap(at, False) for end in self.sign(begin, sign)}

    def term(self, at, names):
        ends = {end for end, _ in self.name(at, lambda run: run in names)}
        for end in self.number(at, 0):
            ends.add(end)
            ends |= {last for last, _ in self.name(end, lambda run: run in names)}
        return ends

    def sum(self, at, names):
        ends = set()
        fresh = self.term(at, names)
        while fresh:
            ends |= fresh
            behind = {end for one in fresh for end in self.mark(one, "+")}
            fresh = {end for one in behind for end in self.term(one, names)}
        return ends

    def part(self, at, names, depth):
        ends = set()
        for end in self.word(at, "not"):
            ends |= self.part(end, names, depth)
        ends |= self.bracket(at, names, depth)
        for end in self.word(at, "some"):
            for behind, name in self.name(end, lambda run: run not in names):
                ends |= self.bracket(behind, names + (name,), depth)
        for end in self.sum(at, names):
            for sign in ("=", "<", ">", "<=", ">="):
                for behind in self.mark(end, sign):
                    last = self.sum(behind, names)
                    ends |= last
                    if sign == "=":
                        ends |= {whole for one in last for mod in self.word(one, "mod")
                                 for whole in self.number(mod, 1)}
        return ends

    def bracket(self, at, names, depth):
        if depth == 20:
            self.gap(at, False)
            return set()
        return {last for begin in self.mark(at, "(")
                for end in self.formula(begin, names, depth + 1) for last in self.mark(end, ")")}

    def joined(self, at, read, word):
        ends = set()
        fresh = read(at)
        while fresh:
            ends |= fresh
            behind = {end for one in fresh for end in self.word(one, word)}
            fresh = {end for one in behind for end in read(one)}
        return ends

    def formula(self, at, names, depth):
        def conjunction(begin):
            return self.joined(begin, lambda one: self.part(one, names, depth), "and")
        return self.joined(at, conjunction, "or")

    def last(self, ends):
        return {(end, None) for one in ends for end in self.gap(one, False)}

    def items(self, at, counters, told=()):
        ends = set()
        for begin in self.number(at, 1) | {at}:
            for end, name in self.name(begin, lambda run: run in counters and run not in told):
                ends.add(end)
                for behind in self.mark(end, ","):
                    ends |= self.items(behind, counters, told + (name,))
        return ends

    def names(self, at, told):
        ends = {at}
        for end, name in self.name(at, lambda run: run not in told):
            ends |= self.names(end, told + (name,))
        return ends

    def named(self, at, is_wanted):
        """A name and a colon."""
        return {(end, name) for begin, name in self.name(at, is_wanted)
                for end in self.mark(begin, ":")}


def slow_formula_column(text, names):
    slow = Slow(text)
    return slow.column(slow.last(slow.formula(0, tuple(names), 0)))


def slow_column(line, words, told):
    """told: a dict of the names told so far, by what they are of."""
    slow = Slow(line)
    ends = set()
    for word in words:
        for at in slow.word(0, word):
            ends |= LINES[word](slow, at, told)
    return slow.column(slow.last(ends))


def program_line(slow, at, told):
    return {end for end, _ in slow.name(at, lambda run: run not in told["programs"])}


def counters_line(slow, at, told):
    return slow.names(at, ())


def locations_line(slow, at, told):
    return slow.names(at, ()) - {at}


def step_line(slow, at, told):
    def is_location(run):
        return run in told["locations"]
    ends = set()
    for begin, _ in slow.named(at, lambda run: run not in told["steps"]):
        for here, _ in slow.name(begin, is_location):
            for way in slow.word(here, "to"):
                for there, _ in slow.name(way, is_location):
                    ends |= effects(slow, there, told["counters"])
    return ends


def effects(slow, at, counters):
    taken = {at} | {end for begin in slow.word(at, "takes") for end in slow.items(begin, counters)}
    given = {end for one in taken for begin in slow.word(one, "gives")
             for end in slow.items(begin, counters)}
    return taken | given


def start_line(slow, at, told):
    ends = set()
    for begin, _ in slow.named(at, lambda run: run not in told["starts"]):
        places = {end for end, _ in slow.name(begin, lambda run: run in told["locations"])}
        for _ in told["counters"]:
            places = {end for place in places for end in slow.number(place, 0)}
        ends |= places
    return ends


def goal_line(slow, at, told):
    ends = set()
    for begin, name in slow.named(at, lambda run: run not in told["ended"]):
        left = [one for one in told["locations"] if name != told["goal"] or one not in told["in"]]
        for end, _ in slow.name(begin, lambda run: run in left):
            ends |= slow.formula(end, tuple(told["counters"]), 0)
    return ends


def end_line(slow, at, told):
    return {at}


LINES = {"program": program_line, "counters": counters_line, "locations": locations_line,
         "step": step_line, "start": start_line, "goal": goal_line, "end": end_line}
