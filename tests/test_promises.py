"""[53]: promise texts."""

import random
import re

from numberwall.errors import BadText
from numberwall.promises import promise_of, promise_text
from raising import Raising

WORDS = ("program", "counters", "locations", "step", "start", "goal", "end", "to", "takes", "gives",
         "and", "or", "not", "some", "mod", "never", "by")
# What may be put behind a beginning, if it is right: the rest of a word, and the words behind it.
ENDS = [word[k:] for word in ("to", "never", "by") for k in range(len(word) + 1)] + ["x"]
RESTS = ("", " x", " x x to x", " x to x", " to x", " x x", " x by x", " by x", "x x to x", "x to x",
         "to x", "by x")


def is_right(text):
    """Whether a text is a promise's."""
    words = [word for word in text.split(" ") if word]
    if len(words) < 4 or words[2] not in ("to", "never"):
        return False
    names = words[:2] + words[3:]
    if len(words) > 4:
        if words[2] == "to" or words[4] != "by" or len(words) == 5:
            return False
        names = words[:2] + words[3:4] + words[5:]
    return all(re.fullmatch("[a-z][a-z0-9_]{0,11}", name) and name not in WORDS for name in names)


def slow_column(text):
    """One more than the length of the longest beginning that some right text has, too."""
    for many in range(len(text), -1, -1):
        if any(is_right(text[:many] + end + rest) for end in ENDS for rest in RESTS):
            return many + 1
    return None


class Promises(Raising):
    def test_right_ones(self):
        for text, promise in (
                ("p s to g", ("p", "to", "s", "g", None)),
                ("p s never g", ("p", "never", "s", "g", None)),
                ("p s never g by c", ("p", "never", "s", "g", ("c",))),
                ("  p   s never  g by  c  d c ", ("p", "never", "s", "g", ("c", "d", "c"))),
                ("p2_ to_ to byx", ("p2_", "to", "to_", "byx", None)),
                ("p p never p by p", ("p", "never", "p", "p", ("p",))),
                ("abcdefghijkl s to g ", ("abcdefghijkl", "to", "s", "g", None))):
            self.assertEqual(promise_of(text), promise)
            single = " ".join(text.split())
            self.assertEqual(promise_text(promise), single)
            self.assertEqual(promise_of(single), promise)

    def test_lists_for_rows(self):
        self.assertEqual(promise_text(("p", "never", "s", "g", ["c", "d"])), "p s never g by c d")
        self.assertEqual(promise_text(["p", "to", "s", "g", None]), "p s to g")

    def test_wrong_ones(self):
        for text, column in (
                ("", 1), ("   ", 4), ("p", 2), ("p ", 3), ("p s", 4), ("p s ", 5), ("p s t", 6),
                ("p s to", 7), ("p s to ", 8), ("p s tog", 7), ("p s neve", 9), ("p s nevr g", 8),
                ("p s by g", 5), ("p s to g h", 10), ("p s to g by c", 10), ("p s to g.", 9),
                ("p s never g b", 14), ("p s never g by", 15), ("p s never g by ", 16),
                ("p s never g bx c", 14), ("p s never g c", 13), ("p s never g by C", 16),
                ("p s never g by c d!", 19), ("p s never g by 1", 16), ("P s to g", 1), ("1 s to g", 1),
                ("_p s to g", 1), ("p\ts to g", 2), ("p s to g\n", 9), ("p s\nto g", 4),
                # Words that are no names: longer names begin with them.
                ("to s to g", 3), ("p to to g", 5), ("p s to by", 10), ("p s to by ", 10),
                ("p s never g by or", 18), ("p s never g by or c", 18), ("never", 6),
                ("abcdefghijklm s to g", 13), ("p s to abcdefghijklmn", 20), ("p-s to g", 2),
                ("p s = g", 5), ("p s to \u00e9", 8)):
            self.assertEqual(slow_column(text), column, text)
            self.wrong(BadText, {"column": column}, promise_of, text)

    def test_what_is_no_string(self):
        for text in (None, 5, True, b"p s to g", ("p", "s", "to", "g"), ["p s to g"], {}, 1.5):
            self.wrong(BadText, {"column": 0}, promise_of, text)

    def test_drawn_ones(self):
        chance = random.Random(1)
        pieces = ("p", "s", "to", "never", "g", "by", "c", " ", "  ", "x1", "_", "9", "end", "t", "ne",
                  "b", "abcdefghijkl", "A", ".")
        right = 0
        for _ in range(3000):
            words = ["p", "s", chance.choice(("to", "never")), "g"]
            if chance.random() < 0.5:
                words += ["by"] + ["c"] * chance.randint(0, 2)
            if chance.random() < 0.7:
                words[chance.randrange(len(words))] = chance.choice(pieces)
            text = "".join(word + chance.choice((" ", " ", " ", "  ", "")) for word in words)
            if is_right(text):
                right += 1
                self.assertEqual(promise_text(promise_of(text)), " ".join(text.split()))
            else:
                self.wrong(BadText, {"column": slow_column(text)}, promise_of, text)
        self.assertTrue(300 < right < 2000)


if __name__ == "__main__":
    import unittest

    unittest.main()
