"""Workshops: programs that are edited, and promises about them that are kept at all times."""

from numberwall.asking import is_kept_by, question_of, witness_of
from numberwall.checks import is_natural
from numberwall.errors import BadConfiguration, BadName, BadNumber, NoName, NotKept, NothingToRedo
from numberwall.errors import NothingToUndo, TakenName
from numberwall.names import is_name
from numberwall.programs import is_configuration
from numberwall.promises import promise_of, promise_text
from numberwall.texts import Spoken, spoken_of, text_of

NUMBERS = 100


class Workshop:
    """Programs, and promises about them, which are kept outside of attempts and trials.

    What is kept now is a pair: the row of the spoken programs, and the row of the promises' texts.
    """

    def __init__(self, text="", steps=6, states=3):
        programs = spoken_of(text)
        if not is_natural(steps):
            raise BadNumber("steps", steps)
        if not is_natural(states):
            raise BadNumber("states", states)
        self._steps = steps
        self._states = states
        self._now = (programs, ())
        self._undos = ()
        self._redos = ()
        # How many attempts and trials there are around what is done now.
        self._depth = 0
        # By a promise: what was asked of it last, and what was told.
        self._looks = {}

    def text(self):
        """The text of all programs."""
        return "".join([text_of(spoken) for spoken in self._now[0]])

    def names(self):
        """The names of all programs, in order."""
        return tuple([spoken.name for spoken in self._now[0]])

    def promises(self):
        """The texts of all promises, in the order in which they were made."""
        return self._now[1]

    def get(self, name):
        """The spoken program of a name."""
        return self._now[0][self._place_of(name)]

    def kept(self, text):
        """The pair of whether a promise is kept, and of its witness."""
        return self._look(self._now[0], promise_text(promise_of(text)))

    def put(self, text):
        """Put the programs of a text in the places of those of their names, or behind all."""
        programs = self._now[0]
        for spoken in spoken_of(text):
            names = [one.name for one in programs]
            if spoken.name in names:
                programs = _with(programs, names.index(spoken.name), spoken)
            else:
                programs = programs + (spoken,)
        self._become((programs, self._now[1]))

    def drop(self, name):
        """Drop a program, and all promises that name it."""
        place = self._place_of(name)
        programs, promises = self._now
        self._become((programs[:place] + programs[place + 1:],
                      tuple([promise for promise in promises if promise_of(promise)[0] != name])))

    def rename(self, name, new):
        """Give a program a new name, also in promises."""
        if not is_name(new):
            raise BadName(new)
        place = self._place_of(name)
        if new in self.names():
            raise TakenName(new)
        programs, promises = self._now
        one = programs[place]
        spoken = Spoken(new, one.program, one.counters, one.locations, one.steps, one.starts,
                        one.goals)
        self._become((_with(programs, place, spoken),
                      tuple([_renamed(promise, name, new) for promise in promises])))

    def set_start(self, name, start, configuration):
        """Give a program a start of this name, in the place of the one it has, or behind all."""
        place = self._place_of(name)
        if not is_name(start):
            raise BadName(start)
        one = self._now[0][place]
        if (not is_configuration(one.program, configuration)
                or any([number >= NUMBERS for number in configuration[1]])):
            raise BadConfiguration(configuration)
        starts = one.starts + ((start, configuration),)
        names = [told for told, _ in one.starts]
        if start in names:
            starts = _with(one.starts, names.index(start), (start, configuration))
        spoken = Spoken(one.name, one.program, one.counters, one.locations, one.steps, starts,
                        one.goals)
        self._become((_with(self._now[0], place, spoken), self._now[1]))

    def keep(self, text):
        """Make a promise."""
        promise = promise_text(promise_of(text))
        programs, promises = self._now
        # Its names are looked at now, even where all else is looked at later.
        question_of(programs, promise)
        if promise not in promises:
            promises = promises + (promise,)
        self._become((programs, promises))

    def release(self, text):
        """Give a promise up."""
        words = [word for word in text.split(" ") if word != ""] if isinstance(text, str) else []
        promise = " ".join(words)
        programs, promises = self._now
        if promise not in promises:
            raise NoName(text)
        self._change((programs, tuple([one for one in promises if one != promise])))

    def undo(self):
        """Take the last edit back."""
        if not self._undos:
            raise NothingToUndo()
        self._redos = self._redos + (self._now,)
        self._now = self._undos[-1]
        self._undos = self._undos[:-1]

    def redo(self):
        """Make the edit taken back last again."""
        if not self._redos:
            raise NothingToRedo()
        self._undos = self._undos + (self._now,)
        self._now = self._redos[-1]
        self._redos = self._redos[:-1]

    def attempt(self, action):
        """Call a function with the workshop, all its edits being one; what it tells."""
        told, after = self._called(action)
        self._change(after)
        return told

    def trial(self, action):
        """Call a function with the workshop, nothing of its edits being left; what it tells."""
        told, _ = self._called(action)
        return told

    def _called(self, action):
        """What a function tells, and what it has made of what is kept, which is as it was."""
        before, undos, redos, depth = self._now, self._undos, self._redos, self._depth
        self._undos, self._redos, self._depth = (), (), depth + 1
        try:
            told = action(self)
            if depth == 0:
                self._need_kept(self._now)
        finally:
            after = self._now
            self._now, self._undos, self._redos, self._depth = before, undos, redos, depth
        return (told, after)

    def _become(self, after):
        """Make an edit behind which all promises are kept."""
        if self._depth == 0:
            self._need_kept(after)
        self._change(after)

    def _change(self, after):
        """Make an edit, if it is one."""
        if after != self._now:
            self._undos = self._undos + (self._now,)
            self._redos = ()
            self._now = after

    def _place_of(self, name):
        """The place of the program of a name."""
        names = self.names()
        if not isinstance(name, str) or name not in names:
            raise NoName(name)
        return names.index(name)

    def _need_kept(self, after):
        programs, promises = after
        for promise in promises:
            is_kept, witness = self._look(programs, promise)
            if not is_kept:
                raise NotKept(promise, witness)

    def _look(self, programs, promise):
        """Whether a promise is kept by programs, and the witness."""
        question = question_of(programs, promise)
        # Most edits leave most promises alone: these are not asked for once more.
        last = self._looks.get(promise)
        if last is None or last[0] != question:
            last = (question, witness_of(question, self._steps, self._states))
            self._looks[promise] = last
        return (is_kept_by(question, last[1]), last[1])


def _with(row, place, item):
    """A row with an item in a place."""
    return row[:place] + (item,) + row[place + 1:]


def _renamed(text, name, new):
    """A promise's text with a program's name in the place of another one's."""
    promise = promise_of(text)
    return promise_text((new, *promise[1:])) if promise[0] == name else text
