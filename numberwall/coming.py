"""What is still to come of a row while its columns are read, and of which steps it is made.

A course is a pair (must, may): each step of must is done once, and each one of may as often as
liked besides. With each column it is guessed which steps have a bit 1 in how often they are done;
then what these change is added to what is to come, whose bits are the column, and the half is to
come behind it.
"""


def changes_of(program):
    """What each step adds to the counters."""
    return [tuple([give - take for take, give in zip(takes, gives)])
            for _, takes, gives, _ in program.steps]


def added(row, other):
    """The sums of two rows' numbers."""
    return tuple([one + more for one, more in zip(row, other)])


def first_coming(program, numbers, course):
    """What is to come at first: the numbers, and what the steps change that must be done."""
    coming = tuple(numbers)
    changes = changes_of(program)
    for k in course[0]:
        coming = added(coming, changes[k])
    return coming


def guesses_of(program, course):
    """The pairs (steps, what they add) of steps that may have a bit 1, with unlike sums."""
    changes = changes_of(program)
    guesses = {(0,) * program.counters: ()}
    for k in course[1]:
        for total, steps in list(guesses.items()):
            guesses.setdefault(added(total, changes[k]), steps + (k,))
    return [(steps, total) for total, steps in guesses.items()]


def behind_guess(coming, total):
    """The column with which what is to come begins, and what is to come behind it."""
    sums = added(coming, total)
    column = sum([(one & 1) << i for i, one in enumerate(sums)])
    return (column, tuple([one >> 1 for one in sums]))


class Coming:
    """All that may be to come by some courses, told by numbers; sets of them are told by bits.

    moves[n][column] is the set behind a column, begins the set at first.
    """

    def __init__(self, program, numbers, courses):
        self.columns = 1 << program.counters
        self.numbers = {}
        self.places = []
        self.moves = []
        self.begins = 0
        guesses = [guesses_of(program, course) for course in courses]
        for at, course in enumerate(courses):
            self.begins |= 1 << self._number_of((at, first_coming(program, numbers, course)))
        while len(self.moves) < len(self.places):
            self.moves.append(self._behind(guesses))
        nothing = (0,) * program.counters
        ends = sum([1 << n for n, key in enumerate(self.places) if key[1] == nothing])
        self.good = self._leading(ends, [0])
        self.hopeful = self._leading(ends, list(range(self.columns)))
        self.less = self._less_than(guesses)

    def _number_of(self, key):
        if key not in self.numbers:
            self.numbers[key] = len(self.places)
            self.places.append(key)
        return self.numbers[key]

    def _behind(self, guesses):
        """The moves of the first key that has none yet."""
        at, coming = self.places[len(self.moves)]
        row = [0] * self.columns
        for _, total in guesses[at]:
            column, there = behind_guess(coming, total)
            row[column] |= 1 << self._number_of((at, there))
        return row

    def _leading(self, ends, columns):
        """The set of all from which words of these columns lead to one of a set."""
        found = 0
        more = ends
        while more != found:
            found = more
            for n, row in enumerate(self.moves):
                if any([row[column] & found for column in columns]):
                    more |= 1 << n
        return found

    def _less_than(self, guesses):
        """For each one the set of those that are not needed beside it: whatever may come of them
        may come of it, as some more steps lead to them."""
        below = [1 << n for n in range(len(self.places))]
        before = None
        while below != before:
            before = list(below)
            for n, (at, coming) in enumerate(self.places):
                for _, total in guesses[at]:
                    there = self.numbers.get((at, added(coming, total)), n)
                    below[n] |= below[there]
        # Of two that stand for one another the first one is needed.
        return [sum([1 << m for m in members_of(below[n]) if m > n or not below[m] >> n & 1])
                for n in range(len(below))]

    def needed(self, numbers):
        """Those of a set from which something may come, and which stand below no other one."""
        numbers &= self.hopeful
        covered = 0
        for n in members_of(numbers):
            covered |= self.less[n]
        return numbers & ~covered

    def go(self, numbers, column):
        """The set behind a column."""
        there = 0
        for n in members_of(numbers):
            there |= self.moves[n][column]
        return self.needed(there)


def members_of(numbers):
    """The row of the numbers of a set told by bits."""
    found = []
    while numbers:
        lowest = numbers & -numbers
        found.append(lowest.bit_length() - 1)
        numbers ^= lowest
    return found


def counts_by(program, numbers, courses, word):
    """Counts by one of the courses that lead from these numbers to the row of a word, or None."""
    guesses = [guesses_of(program, course) for course in courses]
    nothing = (0,) * program.counters
    # By what is to come: the steps that had a bit 1, one row for each column.
    ways = {(at, first_coming(program, numbers, course)): ()
            for at, course in enumerate(courses)}
    for column in word:
        ways = _ways_behind(ways, guesses, column)
    seen = {}
    while ways:
        for key, way in ways.items():
            if key[1] == nothing:
                return _counts_of(program, courses[key[0]], way)
            seen[key] = True
        behind = _ways_behind(ways, guesses, 0)
        ways = {key: way for key, way in behind.items() if key not in seen}
    return None


def _ways_behind(ways, guesses, column):
    """The ways behind a column, one for each of what is to come."""
    found = {}
    for (at, coming), way in ways.items():
        for steps, total in guesses[at]:
            bits, there = behind_guess(coming, total)
            if bits == column:
                found.setdefault((at, there), way + (steps,))
    return found


def _counts_of(program, course, way):
    counts = [0] * len(program.steps)
    for k in course[0]:
        counts[k] = 1
    for place, steps in enumerate(way):
        for k in steps:
            counts[k] += 1 << place
    return tuple(counts)
