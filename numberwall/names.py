"""Names and numbers of texts, and how far a run of signs goes as one."""

LETTERS = "abcdefghijklmnopqrstuvwxyz"
DIGITS = "0123456789"
RUN_SIGNS = "abcdefghijklmnopqrstuvwxyz0123456789_"
WORDS = ("program", "counters", "locations", "step", "start", "goal", "end", "to", "takes",
         "gives", "and", "or", "not", "some", "mod", "never", "by")
LONGEST_NAME = 12


def is_name(value):
    """Whether any value is a name."""
    if not isinstance(value, str) or not 1 <= len(value) <= LONGEST_NAME:
        return False
    return value[0] in LETTERS and all([sign in RUN_SIGNS for sign in value]) and value not in WORDS


def right_of_name(run):
    """How many signs of a run some name begins with."""
    # A word that is no name counts whole: longer names begin with it.
    if not begins_name(run):
        return 0
    return min(len(run), LONGEST_NAME)


def right_of_number(run, least):
    """How many signs of a run some number from least (0 or 1) on begins with."""
    if not begins_number(run):
        return 0
    if run[0] == "0":
        return 1 - least
    return 2 if begins_number(run[1:]) else 1


def begins_name(run):
    """Whether the first sign of a run is a letter."""
    return run != "" and run[0] in LETTERS


def begins_number(run):
    """Whether the first sign of a run is a digit."""
    return run != "" and run[0] in DIGITS


def right_of_words(run, words):
    """How many signs of a run some of the words begins with."""
    return max([_alike(run, word) for word in words])


def _alike(one, other):
    """How many signs two strings have alike from the left."""
    many = 0
    while many < min(len(one), len(other)) and one[many] == other[many]:
        many += 1
    return many
