"""Lots: sets of configurations that an automaton reads bit by bit, the least bits first."""

from numberwall.checks import are_naturals, are_reads, is_below, is_integer, is_natural, is_placed
from numberwall.checks import is_row, is_word
from numberwall.errors import BadConfiguration, BadLot, BadNumber, BadReads, Unlike
from numberwall.tables import end_of, explored, hopeful, least_table, least_word


def word_of(x):
    """The word of a row of integers from 0 on: the tuple of its columns."""
    if not is_row(x) or not are_naturals(x, len(x)):
        raise BadNumber("row", x)
    length = max([number.bit_length() for number in x], default=0)
    return tuple([_column_at(x, place) for place in range(length)])


def _column_at(x, place):
    return sum([((number >> place) & 1) << counter for counter, number in enumerate(x)])


def row_of(counters, word):
    """The tuple of the numbers whose bits the columns of a word are."""
    if not is_natural(counters):
        raise BadNumber("counters", counters)
    if not is_word(word, counters):
        raise BadNumber("word", word)
    return tuple([sum([((column >> counter) & 1) << place for place, column in enumerate(word)])
                  for counter in range(counters)])


class Lot:
    """An automaton: where its states go by each column, which are good, where locations begin."""

    def __init__(self, counters, moves, good, begins):
        if not is_natural(counters):
            raise BadNumber("counters", counters)
        if not _are_moves(moves, counters):
            raise BadLot(moves)
        if not _are_truths(good, moves):
            raise BadLot(good)
        if not _are_states(begins, len(moves)) or len(begins) == 0:
            raise BadLot(begins)
        self.counters = counters
        self.moves = tuple([tuple(row) for row in moves])
        self.good = tuple(good)
        self.begins = tuple(begins)

    def __eq__(self, other):
        return (isinstance(other, Lot) and self.counters == other.counters
                and self.moves == other.moves and self.good == other.good
                and self.begins == other.begins)


def _are_moves(value, counters):
    if not is_row(value) or len(value) == 0:
        return False
    return all([_are_states(row, len(value)) and _are_columns(len(row), counters) for row in value])


def _are_columns(many, counters):
    """Whether there are so many columns of so many bits."""
    # The lengths first: a great power of 2 is not worked out for nothing.
    return many.bit_length() == counters + 1 and many == 1 << counters


def _are_states(value, many):
    return is_row(value) and all([is_below(state, many) for state in value])


def _are_truths(value, moves):
    """Whether a value is a row of truths, one for each state, alike behind the column 0."""
    if not is_row(value) or len(value) != len(moves):
        return False
    if not all([isinstance(truth, bool) for truth in value]):
        return False
    return all([truth == value[row[0]] for truth, row in zip(value, moves)])


def need_lot(value, counters, locations):
    """Raise BadLot for any value that is no Lot with so many counters and locations."""
    if not isinstance(value, Lot) or value.counters != counters or len(value.begins) != locations:
        raise BadLot(value)


def _need_sizes(counters, locations):
    if not is_natural(counters):
        raise BadNumber("counters", counters)
    if not is_integer(locations) or locations < 1:
        raise BadNumber("locations", locations)


def read(lot, q, word):
    """The state to which the columns of a word lead from state q."""
    if not is_below(q, len(lot.moves)):
        raise BadNumber("state", q)
    if not is_word(word, lot.counters):
        raise BadNumber("word", word)
    return end_of(lot.moves, q, word)


def is_in(lot, configuration):
    """Whether a configuration is in a lot."""
    if not is_placed(configuration, lot.counters, len(lot.begins)):
        raise BadConfiguration(configuration)
    location, numbers = configuration
    return lot.good[end_of(lot.moves, lot.begins[location], word_of(numbers))]


def all_of(counters, locations):
    """The Lot of one state that has all configurations in."""
    _need_sizes(counters, locations)
    return Lot(counters, ((0,) * (1 << counters),), (True,), (0,) * locations)


def none_of(counters, locations):
    """The Lot of one state that has no configuration in."""
    _need_sizes(counters, locations)
    return Lot(counters, ((0,) * (1 << counters),), (False,), (0,) * locations)


def _need_alike(one, other):
    if one.counters != other.counters:
        raise Unlike("counters")
    if len(one.begins) != len(other.begins):
        raise Unlike("locations")


def meet(one, other):
    """The Lot, in least form, of what both have in."""
    _need_alike(one, other)
    return _paired(one, other, lambda pair: one.good[pair[0]] and other.good[pair[1]])


def join(one, other):
    """The Lot, in least form, of what at least one has in."""
    _need_alike(one, other)
    return _paired(one, other, lambda pair: one.good[pair[0]] or other.good[pair[1]])


def _paired(one, other, is_good):
    """Both read at once, with pairs of states."""
    return lot_of_keys(one.counters, list(zip(one.begins, other.begins)),
                       lambda pair, column: (one.moves[pair[0]][column],
                                             other.moves[pair[1]][column]), is_good)


def left_out(lot):
    """The Lot, in least form, of what a lot has not in."""
    return least(Lot(lot.counters, lot.moves, [not truth for truth in lot.good], lot.begins))


def spread(lot, counters, reads):
    """The Lot of so many counters that looks at those in reads alone, as lot does."""
    if not is_natural(counters):
        raise BadNumber("counters", counters)
    if not are_reads(reads, counters) or len(reads) != lot.counters:
        raise BadReads(reads)
    columns = [cut_column(column, reads) for column in range(1 << counters)]
    moves = [[row[column] for column in columns] for row in lot.moves]
    return Lot(counters, moves, lot.good, lot.begins)


def cut_column(column, reads):
    """The column of the read counters' bits."""
    return _column_at([(column >> counter) & 1 for counter in reads], 0)


def lot_of_keys(counters, begins, go, is_good):
    """The Lot, in least form, of an automaton told by keys."""
    moves, good, starts = explored(1 << counters, begins, go, is_good)
    table = least_table(moves, good, starts)
    return Lot(counters, *table)


def least(lot):
    """The Lot that has the same in, with the least number of states, as they come up."""
    table = least_table(lot.moves, lot.good, lot.begins)
    return Lot(lot.counters, *table)


def is_equal(one, other):
    """Whether two lots have the same in."""
    _need_alike(one, other)
    return least(one) == least(other)


def least_in(lot):
    """The least configuration that is in, None if none is."""
    found = least_word(1 << lot.counters, lot.begins, lambda state, column: lot.moves[state][column],
                       lambda state: lot.good[state])
    if found is None:
        return None
    location, word = found
    return (location, row_of(lot.counters, word))


def all_in(lot, bits):
    """The ascending tuple of all configurations in, with numbers below 2 ** bits."""
    if not is_natural(bits):
        raise BadNumber("bits", bits)
    columns = range(1 << lot.counters)
    is_hopeful = hopeful(lot.moves, lot.good, list(columns))
    found = []
    for location, begin in enumerate(lot.begins):
        words = [(begin, ())]
        for _ in range(bits):
            words = [(lot.moves[state][column], word + (column,)) for state, word in words
                     if is_hopeful[state] for column in columns]
        found.extend([(location, row_of(lot.counters, word)) for state, word in words
                      if lot.good[state]])
    return tuple(sorted(found))


def just_these(counters, locations, configurations):
    """The Lot, in least form, that has just these configurations in."""
    _need_sizes(counters, locations)
    if not is_row(configurations):
        raise BadConfiguration(configurations)
    for configuration in configurations:
        if not is_placed(configuration, counters, locations):
            raise BadConfiguration(configuration)
    begins = [tuple(sorted({numbers for place, numbers in configurations if place == location}))
              for location in range(locations)]
    nothing = (0,) * counters
    return lot_of_keys(counters, begins, _rests_behind, lambda rests: nothing in rests)


def _rests_behind(rests, column):
    """What is still to be read of each of the rows that begin with a column."""
    return tuple([tuple([number >> 1 for number in row]) for row in rests
                  if _column_at(row, 0) == column])


def some(lot, counter):
    """The Lot, in least form, of what some number in a counter's place puts in."""
    if not is_below(counter, lot.counters):
        raise BadNumber("counter", counter)
    bit = 1 << counter
    is_hopeful = hopeful(lot.moves, lot.good, list(range(1 << lot.counters)))
    ends_well = hopeful(lot.moves, lot.good, (0, bit))
    # The columns of the other counters, with a 0 in the place of the missing one.
    columns = [column for column in range(1 << lot.counters) if column & bit == 0]

    def behind(states, column):
        low = columns[column]
        return tuple(sorted({there for state in states
                             for there in (lot.moves[state][low], lot.moves[state][low + bit])
                             if is_hopeful[there]}))

    return lot_of_keys(lot.counters - 1, [(begin,) for begin in lot.begins], behind,
                       lambda states: any([ends_well[state] for state in states]))
