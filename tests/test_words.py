import itertools
import random
import re
import unittest

from leaffold.errors import NoWord
from leaffold.words import read, shown
from tests.helper import SHEETS, SIDES, fold_all, refusal, some_folds

FOLD = r"(?:west|east|north|south) (?:over|under) [1-9][0-9]{0,8}"
ROW = re.compile(rf"(?:{FOLD}(?:, {FOLD})*)?\Z")
# All signs that a text may hold.
SIGNS = "\t\n" + "".join(chr(number) for number in range(ord(" "), ord("~") + 1) if chr(number) != "%")
GOOD = (
    "west over 1",
    "east under 10",
    "north over 999999999, south under 3",
    "south under 64, west over 7, west over 7, north under 21",
)


class Writing(unittest.TestCase):
    """Point 24: rows of folds as texts."""

    def test_one_fold(self):
        self.assertEqual(shown([("west", True, 3)]), "west over 3")
        self.assertEqual(shown([("east", False, 12)]), "east under 12")
        self.assertEqual(shown([("north", False, 1)]), "north under 1")
        self.assertEqual(shown([("south", True, 999999999)]), "south over 999999999")

    def test_a_row_of_folds(self):
        self.assertEqual(shown([("west", True, 2), ("north", False, 1)]), "west over 2, north under 1")
        self.assertEqual(shown([("west", True, 2)] * 3), "west over 2, west over 2, west over 2")

    def test_an_empty_row(self):
        self.assertEqual(shown([]), "")
        self.assertEqual(read(""), [])

    def test_one_fold_is_read(self):
        self.assertEqual(read("west over 3"), [("west", True, 3)])
        self.assertEqual(read("east under 12"), [("east", False, 12)])
        self.assertEqual(read("north under 1"), [("north", False, 1)])
        self.assertEqual(read("south over 999999999"), [("south", True, 999999999)])

    def test_a_row_of_folds_is_read(self):
        self.assertEqual(read("west over 2, north under 1, south over 100"),
                         [("west", True, 2), ("north", False, 1), ("south", True, 100)])

    def test_what_is_written_is_read_to_the_same_row(self):
        draw = random.Random("rows")
        edges = [number for power in range(1, 10) for number in (10 ** power - 1, 10 ** (power - 1))]
        for length in list(range(12)) * 20 + [300]:
            row = []
            for _ in range(length):
                crease = draw.choice(edges + [draw.randrange(1, 10 ** 9)])
                row.append((draw.choice(SIDES), draw.random() < 0.5, crease))
            self.assertEqual(read(shown(row)), row)
            self.assertIsNotNone(ROW.match(shown(row)))

    def test_the_folds_of_a_pile(self):
        for columns, rows in SHEETS:
            folds = some_folds(columns, rows, "words")
            pile = fold_all(columns, rows, folds)
            self.assertEqual(read(shown(pile.done())), folds)

    def test_kinds(self):
        self.assertIs(type(shown([("west", True, 3)])), str)
        self.assertIs(type(shown([])), str)
        told = read("west over 3, south under 4")
        self.assertIs(type(told), list)
        for fold in told:
            self.assertIs(type(fold), tuple)
            self.assertEqual([type(part) for part in fold], [str, bool, int])

    def test_nothing_is_changed_or_kept(self):
        row = [("west", True, 3), ("south", False, 4)]
        text = shown(row)
        self.assertEqual(row, [("west", True, 3), ("south", False, 4)])
        read(text).clear()
        read("").append(("west", True, 1))
        self.assertEqual(read(text), row)
        self.assertEqual(read(""), [])
        row.clear()
        self.assertEqual(shown(row), "")


class Refusing(unittest.TestCase):
    """Point 24: texts that write no row of folds."""

    def check(self, *texts):
        for text in texts:
            # Alone, ahead of a good fold, behind one, and between two.
            for whole in (text, text + ", east over 1", "east over 1, " + text, f"east over 1, {text}, east over 1"):
                with self.subTest(text=whole):
                    self.assertIs(refusal(read, whole), NoWord)

    def test_creases(self):
        self.check("west over 0", "west over 00", "west over 01", "west over 007", "west over 000000001",
                   "west over +1", "west over -1", "west over -0", "west over +0", "west over ++1",
                   "west over 1000000000", "west over 9999999999", "west over 0999999999",
                   "west over " + "1" * 30, "west over " + "9" * 5000,
                   "west over 1.0", "west over 1.", "west over 1e3", "west over 0x1", "west over 1_0", "west over one",
                   "west over 1a", "west over a1", "west over (1)", "west over True", "west over ")

    def test_sides(self):
        self.check("up over 1", "West over 1", "WEST over 1", "wes over 1", "westover 1", "northwest over 1",
                   " over 1", "over 1", "over over 1", "1 over 1", "w over 1", "west, over 1", "west\tover 1")

    def test_ways(self):
        self.check("west Over 1", "west OVER 1", "west ove 1", "west overunder 1", "west True 1", "west False 1",
                   "west 1", "west  1", "west down 1", "west west 1", "west over", "west under", "west 1 over")

    def test_too_few_and_too_many_words(self):
        self.check("west", "west over 1 2", "west over 1 over", "west over under 1", "west over 1 1", "west over 1 west",
                   "west over 1 east over 1", " ", "   ", "over", "1", ",")

    def test_blanks(self):
        self.check(" west over 1", "west over 1 ", "west  over 1", "west over  1", "west over\t1", "west\nover 1",
                   "west over\n1", "west over 1\n", "\nwest over 1", "\twest over 1", "west over 1\t", "west over 1\n\n")

    def test_commas(self):
        for text in (",", ", ", " ,", ", , ", "west over 1,", "west over 1, ", ",west over 1", ", west over 1",
                     "west over 1,east over 1", "west over 1 ,east over 1", "west over 1 , east over 1",
                     "west over 1,  east over 1", "west over 1, , east over 1", "west over 1,, east over 1",
                     "west over 1,\neast over 1", "west over 1,\teast over 1", "west over 1; east over 1",
                     "west over 1\neast over 1", "west over 1 east over 1", "west over 1, east over 1,"):
            with self.subTest(text=text):
                self.assertIs(refusal(read, text), NoWord)

    def test_figures_and_blanks_beyond_the_signs_of_a_text(self):
        for sign in ("\u0661", "\u00b2", "\uff11", "\u00a0", "\u2009", "%", "\r", "\f", "\v", "\0", "\x1c", "\u2028"):
            self.check(f"west over {sign}", f"west over 1{sign}", f"west{sign}over 1", f"{sign}west over 1", sign)

    def test_one_sign_more_less_or_other(self):
        for text in GOOD:
            for place in range(len(text) + 1):
                self.agree(text[:place] + text[place + 1:])
                for sign in SIGNS:
                    self.agree(text[:place] + sign + text[place:])
                    self.agree(text[:place] + sign + text[place + 1:])

    def test_short_texts_of_any_signs(self):
        for length in range(3):
            for signs in itertools.product(SIGNS, repeat=length):
                self.agree("".join(signs))

    def test_words_in_any_order(self):
        draw = random.Random("words")
        pieces = SIDES + ("over", "under", " ", " ", " ", ", ", ", ", "1", "20", "0", "")
        for _ in range(5000):
            self.agree("".join(draw.choice(pieces) for _ in range(draw.randrange(14))))

    def agree(self, text):
        if ROW.match(text):
            self.assertEqual(shown(read(text)), text)
        else:
            self.assertIs(refusal(read, text), NoWord, text)


if __name__ == "__main__":
    unittest.main()
