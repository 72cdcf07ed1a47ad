"""Lots of the rows by which a sum with weights is equal to, at most, or like a number."""

from numberwall.lots import lot_of_keys


def equal_lot(weights, rests):
    """The Lot, in least form, of all (l, x) by which the sum is rests[l]."""
    worths = _worths(weights)

    def go(rest, column):
        if rest is None or (rest - worths[column]) % 2 != 0:
            return None
        return (rest - worths[column]) // 2

    return lot_of_keys(len(weights), rests, go, lambda rest: rest == 0)


def most_lot(weights, rests):
    """The Lot, in least form, of all (l, x) by which the sum is at most rests[l]."""
    worths = _worths(weights)
    return lot_of_keys(len(weights), rests, lambda rest, column: (rest - worths[column]) // 2,
                       lambda rest: rest >= 0)


def like_lot(weights, n, rests):
    """The Lot, in least form, of all (l, x) by which the sum less rests[l] is a multiple of n."""
    worths = _worths(weights)

    def go(pair, column):
        if pair is None:
            return None
        modulus, rest = pair
        less = rest - worths[column]
        if modulus % 2 != 0:
            return (modulus, less * ((modulus + 1) // 2) % modulus)
        return (modulus // 2, less // 2 % (modulus // 2)) if less % 2 == 0 else None

    return lot_of_keys(len(weights), [(n, rest % n) for rest in rests], go,
                       lambda pair: pair is not None and pair[1] == 0)


def _worths(weights):
    """For each column the sum of the weights of the counters whose bits in it are 1."""
    worths = [0]
    for weight in weights:
        worths = worths + [worth + weight for worth in worths]
    return worths
