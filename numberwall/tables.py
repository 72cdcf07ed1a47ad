"""Automata told by keys: where a key goes by each column, and whether it is good."""


def explored(columns, begins, go, is_good):
    """The moves, the good and the begins of all keys that come up, numbered as they do.

    begins is a row of keys; go(key, column) is the key behind a column, is_good(key) a truth.
    """
    numbers = {}
    for key in begins:
        numbers.setdefault(key, len(numbers))
    keys = list(numbers)
    moves = []
    while len(moves) < len(keys):
        here = keys[len(moves)]
        row = []
        for column in range(columns):
            there = go(here, column)
            if there not in numbers:
                numbers[there] = len(keys)
                keys.append(there)
            row.append(numbers[there])
        moves.append(row)
    return (moves, [is_good(key) for key in keys], [numbers[key] for key in begins])


def least_table(moves, good, begins):
    """The same with alike states made one and those never come to left out."""
    parts = _parts_of(moves, good)
    members = {}
    for state, part in enumerate(parts):
        members.setdefault(part, state)
    return explored(len(moves[0]), [parts[state] for state in begins],
                    lambda part, column: parts[moves[members[part]][column]],
                    lambda part: good[members[part]])


def _parts_of(moves, good):
    """For each state the number of its part, states of one part being alike."""
    many = 0
    parts = _numbered(good)
    while max(parts) >= many:
        many = max(parts) + 1
        parts = _numbered([(part, *[parts[there] for there in row])
                           for part, row in zip(parts, moves)])
    return parts


def _numbered(keys):
    """For each key the number of the first key that is like it, counting unlike ones."""
    numbers = {}
    return [numbers.setdefault(key, len(numbers)) for key in keys]


def least_word(columns, begins, go, is_good):
    """The least pair (place, word) such that word leads from begins[place] to a good key, or None.

    Less are shorter words, then lesser places, then lesser words. The key None leads nowhere.
    """
    seen = {None}
    fresh = [(key, place, ()) for place, key in enumerate(begins)]
    while fresh:
        layer = []
        for key, place, word in fresh:
            if key not in seen:
                seen.add(key)
                layer.append((key, place, word))
                if is_good(key):
                    return (place, word)
        fresh = [(go(key, column), place, word + (column,))
                 for key, place, word in layer for column in range(columns)]
    return None


def hopeful(moves, good, allowed):
    """For each state whether some word of the allowed columns leads from it to a good one."""
    found = list(good)
    is_more = True
    while is_more:
        is_more = False
        for state, row in enumerate(moves):
            if not found[state] and any([found[row[column]] for column in allowed]):
                found[state] = True
                is_more = True
    return found


def end_of(moves, state, word):
    """The state to which the columns of a word lead."""
    for column in word:
        state = moves[state][column]
    return state
