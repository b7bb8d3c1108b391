import re
import unittest
from random import Random

from latebyfew.errors import BadText
from latebyfew.towns import is_town, read, written
from samples import EMPTY, ODD, ONE, SIX, TOWN, TOWNS, random_town

TEXT = "\n".join((
    "town 20 2",
    "place 0 9 1 1 0 5",
    "place 4 7 1 1 0 5",
    "leg 0 1 2 4 3",
    "leg 0 2 3 3 4",
    "leg 1 0 2 3 3",
    "leg 1 2 1 3 1",
    "leg 2 0 3 5 4",
    "leg 2 1 1 1 1",
))
NUMBER = "(?:0|[1-9][0-9]*)"
LINES = re.compile(
    f"town(?: {NUMBER}){{2}}" + f"(?:\nplace(?: {NUMBER}){{6}})*" + f"(?:\nleg(?: {NUMBER}){{5}})*")


def is_text(text):
    """Whether text is the text of a town, without the reader of the package."""
    if LINES.fullmatch(text) is None:
        return False
    lines = [line.split(" ") for line in text.split("\n")]
    rows = [(words[0], tuple(int(word) for word in words[1:])) for words in lines]
    places = tuple(row for word, row in rows if word == "place")
    legs = tuple(row for word, row in rows if word == "leg")
    return is_town((places, legs, *rows[0][1]))


def first_wrong(text):
    """The first wrong line: all whole lines of a text before any one are a text, too."""
    lines = text.split("\n")
    for at in range(1, len(lines) + 1):
        if not is_text("\n".join(lines[:at])):
            return at
    return None


class Texts(unittest.TestCase):
    def check_bad(self, text, at):
        with self.assertRaises(BadText) as caught:
            read(text)
        self.assertEqual(caught.exception.at, at, repr(text))
        self.assertNotIsInstance(caught.exception.at, bool)

    def check(self, text):
        """Whether text is read, or refused, as by the definition."""
        at = first_wrong(text)
        if at is None:
            self.assertEqual(written(read(text)), text)
        else:
            self.check_bad(text, at)

    def test_the_examples(self):
        self.assertIs(read(written(TOWN)) == TOWN, True)
        self.assertEqual(written(((), (), 3, 2)), "town 3 2")
        self.assertEqual(written(TOWN).split("\n")[2:4], ["place 4 7 1 1 0 5", "leg 0 1 2 4 3"])
        self.check_bad("town 3 2\nplace 4 3 1 1 0 5", 2)

    def test_written(self):
        self.assertEqual(written(TOWN), TEXT)
        self.assertEqual(written(EMPTY), "town 3 2")
        self.assertEqual(written((((10, 10 ** 39, 0, 0, 0, 0),), (), 0, 100)),
                         "town 0 100\nplace 10 1" + 39 * "0" + " 0 0 0 0")

    def test_read(self):
        self.assertEqual(read(TEXT), TOWN)
        self.assertEqual(read("town 0 0"), ((), (), 0, 0))
        self.assertEqual(read("town 3 2\nplace 0 0 0 0 0 0"), (((0, 0, 0, 0, 0, 0),), (), 3, 2))

    def test_there_and_back(self):
        for town in TOWNS + tuple(random_town(seed) for seed in range(100)):
            self.assertEqual(read(written(town)), town)
            self.assertIs(is_town(read(written(town))), True)

    def test_no_string(self):
        for odd in ODD:
            if not isinstance(odd, str):
                self.check_bad(odd, 0)
        for odd in (TOWN, [TEXT], (TEXT,), b"town 3 2"):
            self.check_bad(odd, 0)

    def test_first_line(self):
        for text in ("", " ", "\n", "town", "town 3", "town 3 2 1", "Town 3 2", "place 0 9 1 1 0 5", "leg 0 1 2 4 3",
                     "town  3 2", "town 3 2 ", " town 3 2", "town 03 2", "town -3 2", "town +3 2", "town 3,2",
                     "town 3 2.0", "town 3 0x2", "town 1_0 2", "town\t3 2", "town 3 2\r", "\ntown 3 2", "town 3 -0",
                     "town 3 00", "town 3 \u0662", "town 3 \u00b2", "3 2", "town3 2"):
            self.check_bad(text, 1)

    def test_second_line(self):
        for line in ("", " ", "town 3 2", "place", "place 0 9 1 1 0", "place 0 9 1 1 0 5 5", "places 0 9 1 1 0 5",
                     "place 0 9 1 1 0 05", "place 0 9 1 1  0 5", "place 10 9 1 1 0 5", "leg 0 1 2 4 3",
                     "leg 0 0 2 4 3", "place 0 9 1 1 0 5 ", "place 0 9 1 1 0 -5", "place 0 9 1 1 0 5\r"):
            self.check_bad("town 3 2\n" + line, 2)

    def test_legs(self):
        head = "town 3 2\nplace 0 9 1 1 0 5\n"
        self.assertEqual(read(head + "leg 0 1 4 4 3")[1], ((0, 1, 4, 4, 3),))
        for line in ("leg 0 1 5 4 3", "leg 0 2 2 4 3", "leg 2 0 2 4 3", "leg 1 1 2 4 3", "leg 0 0 2 4 3",
                     "leg 0 1 2 4", "leg 0 1 2 4 3 3", "leg  0 1 2 4 3", "leg 0 01 2 4 3"):
            self.check_bad(head + line, 3)
            self.check_bad(head + line + "\n\n\n", 3)
        head = head + "leg 0 1 2 4 3\n"
        for line in ("leg 0 1 2 4 3", "leg 0 1 2 4 4", "leg 0 1 3 4 3", "place 0 9 1 1 0 5", "town 3 2", ""):
            self.check_bad(head + line, 4)
        self.check_bad("town 3 2\nplace 0 9 1 1 0 5\nleg 1 0 2 4 3\nleg 0 1 2 4 3", 4)

    def test_lines_changed(self):
        for town in (TOWN, ONE, EMPTY, random_town(7)):
            lines = written(town).split("\n")
            for k in range(len(lines)):
                self.check("\n".join(lines[:k]))
                self.check("\n".join(lines[:k] + lines[k + 1:]))
                self.check("\n".join(lines[:k] + [lines[k]] + lines[k:]))
                for new in ("", " ", "town 3 2", "place 0 9 1 1 0 5", "leg 0 1 2 4 3", "leg 2 1 1 1 1"):
                    self.check("\n".join(lines[:k] + [new] + lines[k:]))
                    self.check("\n".join(lines[:k] + [new] + lines[k + 1:]))
                for j in range(k):
                    other = list(lines)
                    other[j], other[k] = other[k], other[j]
                    self.check("\n".join(other))

    def test_a_line_feed_more(self):
        for town in TOWNS:
            text = written(town)
            self.check_bad(text + "\n", text.count("\n") + 2)
            self.check_bad("\n" + text, 1)

    def test_words_changed(self):
        for k, line in enumerate(TEXT.split("\n")):
            words = line.split(" ")
            for j, word in enumerate(words):
                for new in ([], [word, word], [""], ["0"], ["99"], ["-1"], ["0" + word], ["+" + word], ["x"]):
                    lines = TEXT.split("\n")
                    lines[k] = " ".join(words[:j] + new + words[j + 1:])
                    self.check("\n".join(lines))

    def test_characters_changed(self):
        for k in range(len(TEXT) + 1):
            self.check(TEXT[:k])
            self.check(TEXT[:k] + TEXT[k + 1:])
            for new in " \n0-+x_.t9":
                self.check(TEXT[:k] + new + TEXT[k:])
                self.check(TEXT[:k] + new + TEXT[k + 1:])

    def test_many_changes(self):
        draw = Random(5)
        for seed in range(1500):
            text = written(random_town(seed % 40))
            for _ in range(draw.randint(1, 3)):
                k = draw.randint(0, len(text))
                text = text[:k] + draw.choice(["", " ", "\n", "0", "7", "-", "leg"]) + text[k + draw.randint(0, 2):]
            self.check(text)

    def test_the_first_of_several(self):
        self.check_bad("town 3 2\nplace 4 3 1 1 0 5\nplace", 2)
        self.check_bad("town 3\nplace 4 3 1 1 0 5", 1)
        self.check_bad("town 3 2\nplace 4 4 1 1 0 5\nleg 1 0 1 1 1\nleg 1 0 1 1 1\nleg 1 0 1 1 1", 4)

    def test_long_texts(self):
        self.assertEqual(len(written(SIX).split("\n")), 49)
        self.assertEqual(read("town 1" + 2000 * "0" + " 2"), ((), (), 10 ** 2000, 2))

    def test_numerals_that_python_does_not_read_at_once(self):
        for many in (3999, 4000, 4001, 4300, 4301, 8001):
            for numeral in ("9" * many, "1" + "0" * (many - 1), "12" * (many // 2)):
                found = read("town 3 " + numeral)
                self.assertTrue(is_town(found))
                self.assertEqual(sum(int(digit) for digit in numeral), digit_sum(found[3]))
                self.assertEqual(found[3] % 10 ** 60, int(numeral[-60:]))
                self.assertTrue(10 ** (many - 2) < found[3] < 10 ** many)
            for text, at in (("town " + "9" * many, 1), ("town 3 2\nplace 1 " + "9" * many, 2),
                             ("town 3 2\nleg " + "9" * many + " 0 1 1 1", 2), ("town 3 0" + "9" * many, 1)):
                self.check_bad(text, at)


def digit_sum(number):
    """The sum of the digits of a number, however long it is."""
    found = 0
    while number:
        number, digits = divmod(number, 10 ** 500)
        found += sum(int(digit) for digit in str(digits))
    return found


if __name__ == "__main__":
    unittest.main()
