import random
import unittest

from leaffold.errors import NoPlace, Severed
from leaffold.joints import cut, joints, pieces
from leaffold.piles import Pile, folded, laid, undone
from tests.helper import FAR, SHEETS, fold_all, heaps, lines, modelled, refusal, seen, some_folds, slow_folds


class Telling(unittest.TestCase):
    """Points 10 and 11."""

    def test_a_flat_sheet(self):
        self.assertEqual(joints(laid(3, 2)), [
            (0, 1, False, 1), (0, 3, True, 1), (1, 2, False, 2), (1, 4, True, 1), (2, 5, True, 1),
            (3, 4, False, 1), (4, 5, False, 2),
        ])

    def test_one_cell_has_none(self):
        self.assertEqual(joints(laid(1, 1)), [])

    def test_strips(self):
        self.assertEqual(joints(laid(4, 1)), [(0, 1, False, 1), (1, 2, False, 2), (2, 3, False, 3)])
        self.assertEqual(joints(laid(1, 4)), [(0, 1, True, 1), (1, 2, True, 2), (2, 3, True, 3)])

    def test_a_crease_is_an_edge_behind_its_fold(self):
        self.assertEqual(joints(folded(laid(3, 1), "west", True, 1)), [(0, 1, False, 0), (1, 2, False, 1)])
        self.assertEqual(joints(folded(laid(3, 1), "east", True, 1)), [(0, 1, False, 2), (1, 2, False, 1)])
        self.assertEqual(joints(folded(laid(1, 3), "north", False, 1)), [(0, 1, True, 0), (1, 2, True, 1)])
        self.assertEqual(joints(folded(laid(1, 3), "south", False, 1)), [(0, 1, True, 2), (1, 2, True, 1)])

    def test_a_sheet_folded_both_ways(self):
        pile = fold_all(2, 2, [("west", True, 1), ("south", True, 1)])
        self.assertEqual(joints(pile), [(0, 1, False, 0), (0, 2, True, 1), (1, 3, True, 1), (2, 3, False, 0)])

    def test_kinds(self):
        told = joints(laid(2, 2))
        self.assertIs(type(told), list)
        for joint in told:
            self.assertIs(type(joint), tuple)
            self.assertEqual([type(part) for part in joint], [int, int, bool, int])

    def test_sheets_folded_in_any_way(self):
        for columns, rows in SHEETS:
            for seed in range(3):
                for most in (0, 1, 2, 3, 1000):
                    folds = some_folds(columns, rows, seed, most)
                    with self.subTest(columns=columns, rows=rows, folds=folds):
                        told = joints(fold_all(columns, rows, folds))
                        self.assertEqual(told, modelled(columns, rows, folds).joints())
                        self.assertEqual(len(told), (columns - 1) * rows + columns * (rows - 1))

    def test_the_longest_rows_of_folds(self):
        for columns, rows in SHEETS:
            folds = slow_folds(columns, rows)
            with self.subTest(columns=columns, rows=rows):
                self.assertEqual(joints(fold_all(columns, rows, folds)), modelled(columns, rows, folds).joints())


class Cutting(unittest.TestCase):
    """Points 12 and 13."""

    def test_an_upright_line(self):
        pile = cut(laid(3, 2), False, 1)
        self.assertIsInstance(pile, Pile)
        self.assertEqual(joints(pile), [
            (0, 3, True, 1), (1, 2, False, 2), (1, 4, True, 1), (2, 5, True, 1), (4, 5, False, 2),
        ])
        self.assertEqual(pieces(pile), [[0, 3], [1, 2, 4, 5]])

    def test_a_level_line(self):
        pile = cut(laid(3, 2), True, 1)
        self.assertEqual(joints(pile), [(0, 1, False, 1), (1, 2, False, 2), (3, 4, False, 1), (4, 5, False, 2)])
        self.assertEqual(pieces(pile), [[0, 1, 2], [3, 4, 5]])

    def test_two_knives(self):
        pile = cut(cut(laid(2, 2), True, 1), False, 1)
        self.assertEqual(joints(pile), [])
        self.assertEqual(pieces(pile), [[0], [1], [2], [3]])

    def test_a_folded_sheet(self):
        pile = fold_all(4, 1, [("west", True, 2)])
        self.assertEqual(joints(cut(pile, False, 0)), [(0, 1, False, 1), (2, 3, False, 1)])
        self.assertEqual(pieces(cut(pile, False, 0)), [[0, 1], [2, 3]])
        self.assertEqual(joints(cut(pile, False, 1)), [(1, 2, False, 0)])
        self.assertEqual(pieces(cut(pile, False, 1)), [[0], [1, 2], [3]])

    def test_pieces_go_by_their_least_cells(self):
        pile = fold_all(4, 2, [("west", True, 1)])
        self.assertEqual(pieces(cut(pile, False, 0)), [[0, 4], [1, 2, 3, 5, 6, 7]])
        self.assertEqual(pieces(cut(pile, False, 2)), [[0, 1, 2, 4, 5, 6], [3, 7]])
        self.assertEqual(pieces(cut(cut(pile, False, 2), True, 1)), [[0, 1, 2], [3], [4, 5, 6], [7]])

    def test_edges_of_a_flat_sheet_cut_nothing(self):
        pile = laid(3, 2)
        for line in ((False, 0), (False, 3), (True, 0), (True, 2)):
            with self.subTest(line=line):
                behind = cut(pile, *line)
                self.assertIsNot(behind, pile)
                self.assertEqual(seen(behind), seen(pile))

    def test_pieces_of_a_pile_that_is_not_cut(self):
        for columns, rows in SHEETS:
            self.assertEqual(pieces(laid(columns, rows)), [list(range(columns * rows))])

    def test_kinds(self):
        told = pieces(cut(laid(2, 2), False, 1))
        self.assertIs(type(told), list)
        self.assertEqual([type(piece) for piece in told], [list, list])
        self.assertIs(type(told[0][0]), int)

    def check_knives(self, columns, rows, folds, knives):
        piles, model = [fold_all(columns, rows, folds)], modelled(columns, rows, folds)
        wanted = [model.seen()]
        for knife in knives:
            piles.append(cut(piles[-1], *knife))
            model.knife(*knife)
            wanted.append(model.seen())
            self.assertEqual(seen(piles[-1]), wanted[-1])
        # Only now: the earlier ones must have stayed through all of the knives.
        self.assertEqual([seen(pile) for pile in piles], wanted)
        self.assertEqual(heaps(piles[-1]), heaps(piles[0]))
        self.assertEqual(piles[-1].done(), folds)

    def test_knives_one_behind_the_other(self):
        for columns, rows in SHEETS:
            for most in (0, 1, 2, 1000):
                folds = some_folds(columns, rows, "knives", most)
                draw = random.Random(f"{columns} {rows} {most}")
                choice = lines(fold_all(columns, rows, folds))
                knives = [draw.choice(choice) for _ in range(5)]
                # Twice on one line: the second time no joint is left there.
                knives.append(knives[0])
                with self.subTest(columns=columns, rows=rows, folds=folds, knives=knives):
                    self.check_knives(columns, rows, folds, knives)

    def test_each_line_by_itself(self):
        for columns, rows in ((1, 1), (2, 3), (5, 4), (8, 8), (9, 7)):
            for most in (0, 1, 2, 3, 1000):
                folds = some_folds(columns, rows, "lines", most)
                for line in lines(fold_all(columns, rows, folds)):
                    with self.subTest(columns=columns, rows=rows, folds=folds, line=line):
                        self.check_knives(columns, rows, folds, [line])

    def test_knives_on_all_lines_leave_single_cells(self):
        for columns, rows in SHEETS:
            pile = fold_all(columns, rows, some_folds(columns, rows, "all", 2))
            for line in lines(pile):
                pile = cut(pile, *line)
            self.assertEqual(joints(pile), [])
            self.assertEqual(pieces(pile), [[cell] for cell in range(columns * rows)])

    def test_a_line_that_is_not_there_is_refused(self):
        shut = fold_all(4, 2, [("west", True, 2), ("west", True, 1), ("north", True, 1)])
        for pile in (laid(1, 1), laid(5, 2), laid(2, 5), fold_all(6, 5, [("east", True, 2)]), shut, cut(shut, False, 0)):
            before = seen(pile)
            for level, last in ((False, pile.wide), (True, pile.high)):
                for number in (-1, -2, -last, last + 1, last + 2) + FAR + tuple(-far for far in FAR):
                    with self.subTest(level=level, number=number):
                        self.assertIs(refusal(cut, pile, level, number), NoPlace)
                self.assertIsNone(refusal(cut, pile, level, 0))
                self.assertIsNone(refusal(cut, pile, level, last))
            self.assertEqual(seen(pile), before)

    def test_undoing_behind_knives_that_cut_nothing(self):
        folds = [("west", True, 2), ("north", False, 1)]
        pile = fold_all(4, 3, folds)
        for line in ((False, 2), (True, 2), (False, 2)):
            pile = cut(pile, *line)
        self.assertEqual(seen(undone(pile)), modelled(4, 3, folds[:1]).seen())
        self.assertEqual(seen(undone(undone(pile))), seen(laid(4, 3)))

    def test_the_pile_ahead_of_a_knife_is_folded_on(self):
        pile = laid(4, 1)
        self.assertIs(refusal(undone, cut(pile, False, 2)), Severed)
        self.assertEqual(seen(folded(pile, "west", True, 2)), modelled(4, 1, [("west", True, 2)]).seen())


class Owning(unittest.TestCase):
    """Point 1."""

    def test_joints_that_were_told_are_the_askers_own(self):
        pile = cut(fold_all(4, 2, [("west", True, 2)]), True, 1)
        before = seen(pile)
        told = joints(pile)
        told.append((0, 7, True, 1))
        told.reverse()
        joints(pile).clear()
        self.assertEqual(seen(pile), before)
        self.assertEqual(seen(cut(pile, False, 1)), modelled_cut(4, 2, [("west", True, 2)], [(True, 1), (False, 1)]).seen())

    def test_pieces_that_were_told_are_the_askers_own(self):
        pile = cut(laid(4, 2), False, 2)
        before = seen(pile)
        told = pieces(pile)
        told[0].append(99)
        told[1].clear()
        told.reverse()
        pieces(pile).clear()
        self.assertEqual(seen(pile), before)


def modelled_cut(columns, rows, folds, knives):
    model = modelled(columns, rows, folds)
    for knife in knives:
        model.knife(*knife)
    return model


if __name__ == "__main__":
    unittest.main()
