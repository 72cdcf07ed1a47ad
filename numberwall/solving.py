"""Numbers of columns that together make a wanted row, or weights by which no such numbers do.

Columns are a row of rows of integers, all as long as the wanted row. Each of the three tells a pair:
(numbers, None), or (None, what shows that there are none).
"""

from math import gcd

# Beyond this no shorter weights are tried.
MOST_TRIED = 100


def times(one, other):
    """The sum of the products of two rows' numbers."""
    return sum([a * b for a, b in zip(one, other)])


def least_terms(numerator, denominator):
    """A ratio in least terms, the denominator from 1 on."""
    common = gcd(numerator, denominator)
    if denominator < 0:
        common = -common
    return (numerator // common, denominator // common)


def _reduced(row):
    """A row of integers divided by all that they have in common."""
    common = 0
    for number in row:
        common = gcd(common, number)
    return [number // common for number in row] if common > 1 else row


def _unit_row(length, place):
    return [1 if other == place else 0 for other in range(length)]


class Tableau:
    """Rows of an equation each, all multiplied by unit, solved for the columns in the base.

    Behind the columns stands one more for each row, of what the row still lacks; the last row tells
    of each column how much less is lacking with more of it.
    """

    def __init__(self, columns, wanted):
        self.columns = len(columns)
        self.signs = [-1 if number < 0 else 1 for number in wanted]
        self.rows = []
        for place, sign in enumerate(self.signs):
            self.rows.append([sign * column[place] for column in columns]
                             + _unit_row(len(wanted), place) + [sign * wanted[place]])
        lacking = [-sum([row[at] for row in self.rows]) for at in range(self.columns)]
        self.rows.append(lacking + [0] * len(wanted) + [-sum([abs(number) for number in wanted])])
        self.base = [self.columns + place for place in range(len(wanted))]
        self.unit = 1

    def solve(self):
        """Exchange columns until nothing is gained by any."""
        entering = self._entering()
        while entering is not None:
            self._exchange(self._leaving(entering), entering)
            entering = self._entering()

    def _entering(self):
        """The first column by which less would be lacking, None if there is none."""
        # Always the first one, here and in what leaves: so nothing goes round.
        for at in range(self.columns):
            if self.rows[-1][at] < 0:
                return at
        return None

    def _leaving(self, entering):
        """The row that bounds a column first."""
        best = None
        for place, row in enumerate(self.rows[:-1]):
            if row[entering] > 0:
                less = -1
                if best is not None:
                    held = self.rows[best]
                    less = row[-1] * held[entering] - held[-1] * row[entering]
                if less < 0 or (less == 0 and self.base[place] < self.base[best]):
                    best = place
        return best

    def _exchange(self, leaving, entering):
        pivot = self.rows[leaving]
        by = pivot[entering]
        # What is divided by was multiplied by before: all stays whole.
        self.rows = [row if place == leaving else
                     [(a * by - row[entering] * b) // self.unit for a, b in zip(row, pivot)]
                     for place, row in enumerate(self.rows)]
        self.unit = by
        self.base[leaving] = entering


def parts_from_zero(columns, wanted):
    """Ratios from 0 on; or weights by which no column is worth more than 0, but wanted is."""
    tableau = Tableau(columns, wanted)
    tableau.solve()
    last = tableau.rows[-1]
    if last[-1] != 0:
        weights = [sign * (tableau.unit - lack)
                   for sign, lack in zip(tableau.signs, last[len(columns):-1])]
        return (None, _shortened(_reduced(weights), columns, wanted))
    found = [(0, 1)] * len(columns)
    for row, at in zip(tableau.rows, tableau.base):
        if at < len(columns):
            found[at] = least_terms(row[-1], tableau.unit)
    return (found, None)


def _shortened(weights, columns, wanted):
    """The smallest of the rounded parts of weights that show the same, or weights itself."""
    # By small weights few numbers are to be kept in mind: the walls of them are small.
    top = max([abs(weight) for weight in weights])
    for most in range(1, min(top, MOST_TRIED)):
        tried = [(2 * most * weight + top) // (2 * top) for weight in weights]
        if times(tried, wanted) > 0 and all([times(tried, column) <= 0 for column in columns]):
            return tried
    return weights


def parts(columns, wanted):
    """Ratios of any sign; or weights by which each column is worth 0, but wanted is not."""
    many = len(columns)
    rows = [[column[place] for column in columns] + [wanted[place]] + _unit_row(len(wanted), place)
            for place in range(len(wanted))]
    solved = []
    for at in range(many):
        rows = _cleared(rows, len(solved), at)
        if len(solved) < len(rows) and rows[len(solved)][at] != 0:
            solved.append(at)
    wrong = [_reduced(row[many + 1:]) for row in rows[len(solved):] if row[many] != 0]
    if wrong:
        return (None, min(wrong, key=_size_of))
    found = [(0, 1)] * many
    for row, at in zip(rows, solved):
        found[at] = least_terms(row[many], row[at])
    return (found, None)


def _size_of(weights):
    return sum([abs(weight) for weight in weights])


def _cleared(rows, top, at):
    """The rows with one from top on that is not 0 in a column brought to top, and the column
    made 0 in all others; the same rows if there is none."""
    chosen = [place for place in range(top, len(rows)) if rows[place][at] != 0]
    if not chosen:
        return rows
    pivot = rows[chosen[0]]
    others = [row for place, row in enumerate(rows) if place != chosen[0]]
    cleared = [_reduced([a * pivot[at] - b * row[at] for a, b in zip(row, pivot)])
               if row[at] != 0 else row for row in others]
    return cleared[:top] + [pivot] + cleared[top:]


class Diagonal:
    """Equations changed by whole changes of rows and columns until one number a row is left.

    Each row holds the numbers of the columns, the wanted one, and of which rows it was made; ways
    tells of which columns each column was made.
    """

    def __init__(self, columns, wanted):
        self.columns = len(columns)
        self.rows = [[column[place] for column in columns] + [wanted[place]]
                     + _unit_row(len(wanted), place) for place in range(len(wanted))]
        self.ways = [_unit_row(len(columns), at) for at in range(len(columns))]

    def solve(self):
        """Make all numbers 0 but those of the diagonal."""
        for at in range(min(len(self.rows), self.columns)):
            while self._bring_least(at) and not self._clear(at):
                pass

    def _bring_least(self, at):
        """Bring the least number from here on to the diagonal; whether there is one but 0."""
        places = [(abs(self.rows[row][column]), row, column)
                  for row in range(at, len(self.rows)) for column in range(at, self.columns)
                  if self.rows[row][column] != 0]
        if not places:
            return False
        _, row, column = min(places)
        self.rows[at], self.rows[row] = self.rows[row], self.rows[at]
        for line in self.rows + self.ways:
            line[at], line[column] = line[column], line[at]
        return True

    def _clear(self, at):
        """Take the row and the column of this place off the others; whether they are cleared."""
        pivot = self.rows[at]
        for place in range(at + 1, len(self.rows)):
            row = self.rows[place]
            often = row[at] // pivot[at]
            self.rows[place] = [a - often * b for a, b in zip(row, pivot)]
        for column in range(at + 1, self.columns):
            often = pivot[column] // pivot[at]
            for line in self.rows + self.ways:
                line[column] -= often * line[at]
        return not any([row[at] for row in self.rows[at + 1:]] + pivot[at + 1:self.columns])

    def number_at(self, place):
        """The number of the diagonal in a row, 0 behind its end."""
        return self.rows[place][place] if place < self.columns else 0


def wholes(columns, wanted):
    """Integers; or a pair (weights, n) such that by them each column is worth a multiple of n, but
    wanted is not."""
    diagonal = Diagonal(columns, wanted)
    diagonal.solve()
    many = len(columns)
    made = [0] * many
    wrong = []
    for place, row in enumerate(diagonal.rows):
        number = diagonal.number_at(place)
        if row[many] != 0 and (number == 0 or row[many] % number != 0):
            n = _least_modulus(number, row[many])
            wrong.append((n, [weight % n for weight in row[many + 1:]]))
        elif row[many] != 0:
            made[place] = row[many] // number
    if wrong:
        n, weights = min(wrong)
        return (None, (weights, n))
    return ([times(way, made) for way in diagonal.ways], None)


def _least_modulus(number, rest):
    """The least divisor of a number that does not divide the rest."""
    n = 2
    while number % n != 0 or rest % n == 0:
        n += 1
    return n
