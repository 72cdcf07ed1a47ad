"""A workshop kept as a list of copies of all that it is, and what drawn scripts do to one."""

from numberwall.errors import BadConfiguration, BadName, NoName, NotKept, NothingToRedo
from numberwall.errors import NothingToUndo, TakenName, Unlike
from numberwall.formulas import lot_of
from numberwall.names import is_name
from numberwall.programs import is_configuration
from numberwall.promises import promise_of
from numberwall.settling import Run, Wall, settle
from numberwall.texts import Spoken, spoken_of, text_of

NOWHERE = ("less", (0, ()), (0, ()))


class Model:
    """What [54] to [58] tell of a workshop; programs and promises are copied at each edit."""

    def __init__(self, text, steps, states):
        self.programs = list(spoken_of(text))
        self.made = []
        self.steps, self.states = steps, states
        self.past, self.future = [], []
        self.inner = 0

    def text(self):
        return "".join(text_of(one) for one in self.programs)

    def names(self):
        return tuple(one.name for one in self.programs)

    def promises(self):
        return tuple(self.made)

    def get(self, name):
        for one in self.programs:
            if isinstance(name, str) and one.name == name:
                return one
        raise NoName(name)

    def asked(self, text):
        """The errors of [54], and what settle is asked."""
        name, word, start, goal, counters = promise_of(text)
        one = self.get(name)
        starts, goals = dict(one.starts), dict(one.goals)
        if start not in starts:
            raise NoName(start)
        if goal not in goals:
            raise NoName(goal)
        for counter in counters or ():
            if counter not in one.counters:
                raise NoName(counter)
        for place, counter in enumerate(counters or ()):
            if counter in counters[place + 1:]:
                raise Unlike(counter)
        lot = lot_of(one.program.counters, [formula or NOWHERE for formula in goals[goal]])
        if word == "to":
            return (one.program, starts[start], lot, (), self.steps, 0), Run
        reads = [i for i, counter in enumerate(one.counters)
                 if counters is None or counter in counters]
        return (one.program, starts[start], lot, reads, self.steps, self.states), Wall

    def kept(self, text):
        asked, kind = self.asked(text)
        witness = settle(*asked)
        return (isinstance(witness, kind), witness)

    def all_kept(self):
        for promise in self.made:
            kept, witness = self.kept(promise)
            if not kept:
                raise NotKept(promise, witness)

    def now(self):
        return (list(self.programs), list(self.made))

    def shown(self):
        return (self.text(), self.promises())

    def edit(self, change, is_looked_at=True):
        before, shown = self.now(), self.shown()
        try:
            change()
            if is_looked_at and self.inner == 0:
                self.all_kept()
        except Exception:
            self.programs, self.made = before
            raise
        if self.shown() != shown:
            self.past.append(before)
            self.future.clear()

    def put(self, text):
        found = spoken_of(text)

        def change():
            for one in found:
                if one.name in self.names():
                    self.programs[self.names().index(one.name)] = one
                else:
                    self.programs.append(one)

        self.edit(change)

    def drop(self, name):
        one = self.get(name)

        def change():
            self.programs.remove(one)
            self.made = [promise for promise in self.made if promise.split()[0] != name]

        self.edit(change)

    def rename(self, name, new):
        if not is_name(new):
            raise BadName(new)
        one = self.get(name)
        if new in self.names():
            raise TakenName(new)

        def change():
            place = self.names().index(name)
            self.programs[place] = Spoken(new, one.program, one.counters, one.locations, one.steps,
                                          one.starts, one.goals)
            self.made = [" ".join([new] + promise.split()[1:]) if promise.split()[0] == name
                         else promise for promise in self.made]

        self.edit(change)

    def set_start(self, name, start, configuration):
        one = self.get(name)
        if not is_name(start):
            raise BadName(start)
        if not is_configuration(one.program, configuration) or max(configuration[1], default=0) > 99:
            raise BadConfiguration(configuration)

        def change():
            starts = dict(one.starts)
            starts[start] = configuration
            place = self.names().index(name)
            self.programs[place] = Spoken(name, one.program, one.counters, one.locations, one.steps,
                                          tuple(starts.items()), one.goals)

        self.edit(change)

    def keep(self, text):
        promise_of(text)
        self.asked(text)
        promise = " ".join(text.split())

        def change():
            if promise not in self.made:
                self.made.append(promise)

        self.edit(change)

    def release(self, text):
        words = " ".join(text.split()) if isinstance(text, str) else None
        if words not in self.made:
            raise NoName(text)
        self.edit(lambda: self.made.remove(words), False)

    def undo(self):
        if not self.past:
            raise NothingToUndo()
        self.future.append(self.now())
        self.programs, self.made = self.past.pop()

    def redo(self):
        if not self.future:
            raise NothingToRedo()
        self.past.append(self.now())
        self.programs, self.made = self.future.pop()

    def within(self, action):
        before, past, future = self.now(), self.past, self.future
        self.past, self.future = [], []
        self.inner += 1
        try:
            told = action(self)
            if self.inner == 1:
                self.all_kept()
            return (told, self.now())
        finally:
            self.inner -= 1
            self.programs, self.made = before
            self.past, self.future = past, future

    def attempt(self, action):
        told, after = self.within(action)

        def change():
            self.programs, self.made = after

        self.edit(change, False)
        return told

    def trial(self, action):
        return self.within(action)[0]


class Stop(Exception):
    """An error of no package."""


def played(shop, script):
    """What a script does to a workshop or a model: each result, or error with its fields.

    A script is a row of (name of a call, arguments), ("stop",), or ("attempt" or "trial", script,
    whether errors within go on).
    """
    return [one_played(shop, row, False) for row in script]


def one_played(shop, row, goes_on):
    try:
        if row[0] == "stop":
            raise Stop("stop")
        if row[0] in ("attempt", "trial"):
            def action(given):
                return [one_played(given, inner, row[2]) for inner in row[1]] + [seen(given)]

            return ("told", getattr(shop, row[0])(action))
        return ("told", getattr(shop, row[0])(*row[1]))
    except Exception as error:
        if goes_on:
            raise
        return (type(error).__name__, vars(error))


def seen(shop):
    return (shop.text(), shop.names(), shop.promises())
