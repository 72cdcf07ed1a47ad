"""The lines of spoken programs, read one behind the other."""

from numberwall.cursors import Cursor
from numberwall.errors import BadLine, BadText
from numberwall.formula_reading import read_formula
from numberwall.names import begins_number

OUTSIDE = ("program",)


class Draft:
    """A spoken program of which some lines are read."""

    def __init__(self, name):
        self.name = name
        self.counters = []
        self.locations = []
        self.steps = []
        self.rows = []
        self.starts = []
        self.goals = []


def _read_program(cursor, drafts):
    drafts.append(Draft(cursor.read_new([draft.name for draft in drafts])))


def _read_counters(cursor, drafts):
    counters = drafts[-1].counters
    while cursor.next_sign() != "":
        counters.append(cursor.read_new(counters))


def _read_locations(cursor, drafts):
    locations = drafts[-1].locations
    locations.append(cursor.read_new(()))
    while cursor.next_sign() != "":
        locations.append(cursor.read_new(locations))


def _read_step(cursor, drafts):
    draft = drafts[-1]
    name = cursor.read_new(draft.steps)
    cursor.read_sign((":",))
    here = _read_location(cursor, draft)
    cursor.read_word(("to",))
    there = _read_location(cursor, draft)
    takes = [0] * len(draft.counters)
    gives = takes
    if cursor.next_run() != "":
        word = cursor.read_word(("takes", "gives"))
        if word == "takes":
            takes = _read_items(cursor, draft.counters)
            if cursor.next_run() != "":
                word = cursor.read_word(("gives",))
        if word == "gives":
            gives = _read_items(cursor, draft.counters)
    draft.steps.append(name)
    draft.rows.append((here, takes, gives, there))


def _read_location(cursor, draft):
    return draft.locations.index(cursor.read_known(draft.locations))


def _read_items(cursor, counters):
    """How much of each counter ITEMS name."""
    row = [0] * len(counters)
    is_more = True
    while is_more:
        number = 1
        if begins_number(cursor.next_run()):
            number = cursor.read_number(1)
        left = [counter for counter, many in zip(counters, row) if many == 0]
        name = cursor.read_known(left)
        row[counters.index(name)] = number
        is_more = cursor.next_sign() == ","
        if is_more:
            cursor.read_sign((",",))
    return row


def _read_start(cursor, drafts):
    draft = drafts[-1]
    name = cursor.read_new([told for told, _ in draft.starts])
    cursor.read_sign((":",))
    location = _read_location(cursor, draft)
    numbers = tuple([cursor.read_number(0) for _ in draft.counters])
    draft.starts.append((name, (location, numbers)))


def _read_goal(cursor, drafts):
    draft = drafts[-1]
    name = cursor.read_new([told for told, _ in draft.goals[:-1]])
    cursor.read_sign((":",))
    if not draft.goals or draft.goals[-1][0] != name:
        draft.goals.append((name, [None] * len(draft.locations)))
    formulas = draft.goals[-1][1]
    left = [told for told, formula in zip(draft.locations, formulas) if formula is None]
    location = draft.locations.index(cursor.read_known(left))
    formulas[location] = read_formula(cursor, draft.counters)


def _read_end(cursor, drafts):
    """Nothing is told behind the word end."""


READERS = {
    "program": _read_program,
    "counters": _read_counters,
    "locations": _read_locations,
    "step": _read_step,
    "start": _read_start,
    "goal": _read_goal,
    "end": _read_end,
}
# By the word that a line begins with: those with which the next one may begin.
BEHIND = {
    "program": ("counters",),
    "counters": ("locations",),
    "locations": ("step", "start", "goal", "end"),
    "step": ("step", "start", "goal", "end"),
    "start": ("start", "goal", "end"),
    "goal": ("goal", "end"),
    "end": ("program",),
}


def read_drafts(text):
    """The drafts of all programs of a text."""
    lines = _lines_of(text)
    drafts = []
    words = OUTSIDE
    for number, line in enumerate(lines, start=1):
        if line.strip(" ") != "":
            try:
                words = BEHIND[_read_line(Cursor(line), words, drafts)]
            except BadText as wrong:
                raise BadLine(number, wrong.column)
    if words != OUTSIDE:
        raise BadLine(len(lines) + 1, 1)
    return drafts


def _lines_of(text):
    lines = text.split("\n")
    # Behind the last line end there is no line, unless something stands there.
    return lines if lines[-1] != "" else lines[:-1]


def _read_line(cursor, words, drafts):
    """The word with which a line begins; the drafts are filled by what it tells."""
    word = cursor.read_word(words)
    reader = READERS[word]
    reader(cursor, drafts)
    cursor.read_end()
    return word
