"""What is known of a table on the way down a tree of cases."""


class Known:
    """Whether the named states are good, and, by what was asked, the states that were told.

    Asked is ("begins", l) or ("moves", q, a).
    """

    def __init__(self, good, told):
        self.good = good
        self.told = told

    def read(self, location, word):
        """The pair (asked, truth): the first thing asked for and not known, or None and whether
        the word is read as in."""
        asked = ("begins", location)
        for column in word:
            state = self.told.get(asked)
            if state is None:
                return (asked, None)
            asked = ("moves", state, column)
        state = self.told.get(asked)
        if state is None:
            return (asked, None)
        return (None, self.good[state])

    def alike(self, asked):
        """The named states that may be the answer."""
        if asked[0] == "moves" and asked[2] == 0:
            return [state for state, truth in enumerate(self.good) if truth == self.good[asked[1]]]
        return list(range(len(self.good)))

    def arms(self, asked, states):
        """What is known in each arm below what is asked of a table of at most so many states."""
        arms = [self._with(asked, state, self.good) for state in self.alike(asked)]
        if len(self.good) < states:
            truths = (True, False)
            if asked[0] == "moves" and asked[2] == 0:
                truths = (self.good[asked[1]],)
            arms.extend([self._with(asked, len(self.good), self.good + (truth,))
                         for truth in truths])
        return arms

    def _with(self, asked, state, good):
        told = {key: self.told[key] for key in self.told}
        told[asked] = state
        return Known(good, told)
