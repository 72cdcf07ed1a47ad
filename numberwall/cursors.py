"""A place in a line that moves on over what is read, or tells the column that is wrong."""

from numberwall.errors import BadText
from numberwall.names import RUN_SIGNS, is_name, right_of_name, right_of_number, right_of_words


class Cursor:
    """A place in a line of a text: at is the number of characters ahead of it."""

    def __init__(self, line):
        self.line = line
        self.at = 0

    def next_sign(self):
        """The first character here that is no space, "" at the end; the place moves to it."""
        while self.at < len(self.line) and self.line[self.at] == " ":
            self.at += 1
        return self.line[self.at:self.at + 1]

    def next_run(self):
        """The longest run of letters, digits and _ behind the spaces here."""
        self.next_sign()
        end = self.at
        while end < len(self.line) and self.line[end] in RUN_SIGNS:
            end += 1
        return self.line[self.at:end]

    def fail(self, right):
        """Raise BadText behind so many right characters."""
        raise BadText(self.at + right + 1)

    def fail_in_words(self, words):
        """Raise BadText behind what is right of a word of these."""
        self.fail(right_of_words(self.next_run(), words))

    def read_word(self, words):
        """The word of these that stands here."""
        run = self.next_run()
        if run not in words:
            self.fail_in_words(words)
        self.at += len(run)
        return run

    def read_sign(self, signs):
        """The first one of the signs that stands here."""
        self.next_sign()
        for sign in signs:
            if self.line[self.at:self.at + len(sign)] == sign:
                self.at += len(sign)
                return sign
        raise BadText(self.at + 1)

    def read_new(self, told):
        """The name here, none of those told."""
        run = self._whole_name()
        if run in told:
            self.fail(0)
        self.at += len(run)
        return run

    def read_known(self, wanted):
        """The name here, one of those wanted."""
        run = self._whole_name()
        if run not in wanted:
            self.fail(0)
        self.at += len(run)
        return run

    def read_number(self, least):
        """The number here, from least (0 or 1) on."""
        run = self.next_run()
        right = right_of_number(run, least)
        if right == 0 or right < len(run):
            self.fail(right)
        self.at += right
        return int(run)

    def read_end(self):
        """Nothing but spaces."""
        if self.next_sign() != "":
            self.fail(0)

    def _whole_name(self):
        run = self.next_run()
        if not is_name(run):
            self.fail(right_of_name(run))
        return run
