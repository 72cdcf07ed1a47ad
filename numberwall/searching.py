"""The search for a wall of few states, or for a tree of cases that shows that there is none."""

from numberwall.knowing import Known
from numberwall.lots import Lot


class Search:
    """A search for a wall of at most so many states; wall is what was found, None at first."""

    def __init__(self, judge, states):
        self.judge = judge
        self.states = states
        self.wall = None
        # What was wrong of some table, with its readings: often it is so of others, too.
        self.wrongs = {}

    def whole_tree(self):
        """A tree of cases, None if a wall is found."""
        return self._item(Known((), {}), ("begins", self.judge.start[0]))

    def _item(self, known, asked):
        """The item that asks for something, with all its arms, None if a wall is found."""
        arms = []
        for inner in known.arms(asked, self.states):
            arm = self._below(inner)
            if arm is None:
                return None
            arms.append(arm)
        return (*asked, tuple(arms))

    def _below(self, known):
        """A tree for all tables of which this is known, None if a wall is found."""
        lot = self._filled(known)
        found = self._nearest_wrong(known, lot)
        if found is None:
            for wrong in self.judge.all_wrong(lot):
                self.wrongs[wrong] = self.judge.readings_of(wrong)
            found = self._nearest_wrong(known, lot)
        if found is None:
            self.wall = lot
            return None
        unknown = [known.read(location, word)[0] for location, word, _ in self.wrongs[found]]
        asked = [one for one in unknown if one is not None]
        return self._item(known, asked[0]) if asked else found

    def _filled(self, known):
        """The table by what is known, with states that stay and begin with 0 where it is not."""
        reads = len(self.judge.reads)
        moves = [[known.told.get(("moves", state, column), state) for column in range(1 << reads)]
                 for state in range(len(known.good))]
        begins = [known.told.get(("begins", location), 0)
                  for location in range(self.judge.program.locations)]
        return Lot(reads, moves, known.good, begins)

    def _nearest_wrong(self, known, lot):
        """What is wrong of a lot by the fewest things that are not known, None for nothing."""
        # The fewer things are still to be asked for, the smaller are trees.
        nearest = None
        fewest = 0
        for wrong, readings in self.wrongs.items():
            many = _many_unknown(known, lot, readings)
            if many is not None and (nearest is None or many < fewest):
                nearest = wrong
                fewest = many
        return nearest


def _many_unknown(known, lot, readings):
    """How many things that the readings ask for are not known, None if a lot reads otherwise."""
    unknown = set()
    for location, word, truth in readings:
        asked = ("begins", location)
        state = lot.begins[location]
        if asked not in known.told:
            unknown.add(asked)
        for column in word:
            asked = ("moves", state, column)
            state = lot.moves[state][column]
            if asked not in known.told:
                unknown.add(asked)
        if lot.good[state] != truth:
            return None
    return len(unknown)
