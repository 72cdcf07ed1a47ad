"""Whether tables are walls: looked at together with the target, and with what each step does."""

from numberwall.checks import are_reads
from numberwall.errors import BadReads
from numberwall.lots import cut_column, need_lot, row_of, word_of
from numberwall.programs import need_configuration, next_one
from numberwall.tables import end_of, hopeful, least_word


def need_case(program, start, target, reads):
    """Raise the first error of a start, of a target and of reads of a program."""
    need_configuration(program, start)
    need_lot(target, program.counters, program.locations)
    if not are_reads(reads, program.counters):
        raise BadReads(reads)


class StepReader:
    """Reads a row column by column, and tells what a step makes of it beside it.

    moves[p][a] is the pair of the state behind column a and of the column of the row behind the
    step; rests[p] is None if the step cannot be done where the row ends at state p, and otherwise
    the word of what is still to come of the row behind it.
    """

    def __init__(self, takes, gives):
        counters = len(takes)
        # What the rest of the row must hold at least, and what is added to it: from both alone,
        # as borrows and carries are, it follows what the next columns do.
        keys = [(tuple(takes), tuple([give - take for take, give in zip(takes, gives)]))]
        numbers = {keys[0]: 0}
        self.moves = []
        while len(self.moves) < len(keys):
            needs, adds = keys[len(self.moves)]
            row = []
            for column in range(1 << counters):
                there, out = _behind_column(needs, adds, column)
                if there not in numbers:
                    numbers[there] = len(keys)
                    keys.append(there)
                row.append((numbers[there], out))
            self.moves.append(row)
        self.rests = [word_of(adds) if max(needs, default=0) == 0 else None for needs, adds in keys]


def _behind_column(needs, adds, column):
    """What the rest behind a column needs and gets, and the column of the row behind the step."""
    bits = [(column >> counter) & 1 for counter in range(len(needs))]
    sums = [bit + add for bit, add in zip(bits, adds)]
    out = sum([(one & 1) << counter for counter, one in enumerate(sums)])
    left = tuple([(need - bit + 1) >> 1 for bit, need in zip(bits, needs)])
    return ((left, tuple([one >> 1 for one in sums])), out)


class Judge:
    """Looks whether lots of the read counters are walls from a start against a target."""

    def __init__(self, program, start, target, reads):
        self.program = program
        self.start = start
        self.target = target
        self.reads = reads
        self.readers = [StepReader([takes[i] for i in reads], [gives[i] for i in reads])
                        for _, takes, gives, _ in program.steps]
        columns = range(1 << program.counters)
        self.cut_columns = [cut_column(column, reads) for column in columns]
        self.is_hopeful = hopeful(target.moves, target.good, list(columns))

    def first_wrong(self, lot):
        """None if a lot is a wall, otherwise the first thing that is wrong."""
        wrong = self._wrong_start(lot) or self._wrong_target(lot)
        for k in range(len(self.readers)):
            wrong = wrong or self._wrong_step(lot, k)
        return wrong

    def all_wrong(self, lot):
        """What is wrong by the start, by the target and by each step, as far as something is."""
        found = [self._wrong_start(lot), self._wrong_target(lot)]
        found.extend([self._wrong_step(lot, k) for k in range(len(self.readers))])
        return [wrong for wrong in found if wrong is not None]

    def readings_of(self, wrong):
        """How what is wrong is read: rows (location, word, whether it is read as in)."""
        if wrong[0] == "start":
            return [self._reading(self.start, False)]
        readings = [self._reading(wrong[-1], True)]
        if wrong[0] == "step":
            readings.append(self._reading(next_one(self.program, wrong[2], wrong[1]), False))
        return readings

    def _reading(self, configuration, truth):
        location, numbers = configuration
        return (location, word_of([numbers[i] for i in self.reads]), truth)

    def _wrong_start(self, lot):
        location, word, _ = self._reading(self.start, False)
        return None if lot.good[end_of(lot.moves, lot.begins[location], word)] else ("start",)

    def _wrong_target(self, lot):
        """With the least configuration that is both read as in and in the target."""
        target = self.target

        def go(pair, column):
            there = target.moves[pair[1]][column]
            if not self.is_hopeful[there]:
                return None
            return (lot.moves[pair[0]][self.cut_columns[column]], there)

        found = least_word(len(self.cut_columns), list(zip(lot.begins, target.begins)), go,
                           lambda pair: lot.good[pair[0]] and target.good[pair[1]])
        if found is None:
            return None
        location, word = found
        return ("target", (location, row_of(self.program.counters, word)))

    def _wrong_step(self, lot, k):
        """With the least configuration, in what is read, from which step k leads out."""
        reader = self.readers[k]
        here, takes, _, there = self.program.steps[k]

        def go(key, column):
            state, at, behind = key
            at, out = reader.moves[at][column]
            return (lot.moves[state][column], at, lot.moves[behind][out])

        def is_led_out(key):
            state, at, behind = key
            rest = reader.rests[at]
            return (lot.good[state] and rest is not None
                    and not lot.good[end_of(lot.moves, behind, rest)])

        found = least_word(1 << len(self.reads), [(lot.begins[here], 0, lot.begins[there])], go,
                           is_led_out)
        if found is None:
            return None
        numbers = list(takes)
        for i, number in zip(self.reads, row_of(len(self.reads), found[1])):
            numbers[i] = number
        return ("step", k, (here, tuple(numbers)))
