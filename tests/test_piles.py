import unittest

from leaffold.errors import NoFold, NoPlace, NoSheet, Severed
from leaffold.joints import cut, joints
from leaffold.piles import Pile, folded, laid, undone
from tests.helper import (
    FAR, SHEETS, SIDES, Model, creases, fold_all, heaps, lines, modelled, refusal, seen, slow_folds, some_folds,
)


class Laying(unittest.TestCase):
    """Points 2 and 4."""

    def test_a_sheet_of_three_columns_and_two_rows(self):
        pile = laid(3, 2)
        self.assertIsInstance(pile, Pile)
        self.assertEqual((pile.columns, pile.rows, pile.wide, pile.high), (3, 2, 3, 2))
        self.assertEqual(heaps(pile), {
            (0, 0): [(0, False, False)], (1, 0): [(1, False, False)], (2, 0): [(2, False, False)],
            (0, 1): [(3, False, False)], (1, 1): [(4, False, False)], (2, 1): [(5, False, False)],
        })
        self.assertEqual(pile.done(), [])

    def test_every_sheet_that_there_is(self):
        for columns in range(1, 65):
            for rows in range(1, 64 // columns + 1):
                pile = laid(columns, rows)
                self.assertEqual((pile.columns, pile.rows, pile.wide, pile.high), (columns, rows, columns, rows))
                self.assertEqual(pile.done(), [])
                for y in range(rows):
                    for x in range(columns):
                        self.assertEqual(pile.heap(x, y), [(y * columns + x, False, False)])

    def test_the_kinds_of_what_is_told(self):
        pile = laid(2, 3)
        for number in (pile.columns, pile.rows, pile.wide, pile.high):
            self.assertIs(type(number), int)
        heap = pile.heap(1, 2)
        self.assertIs(type(heap), list)
        self.assertIs(type(heap[0]), tuple)
        self.assertEqual([type(part) for part in heap[0]], [int, bool, bool])
        self.assertIs(type(pile.done()), list)

    def test_less_than_one_is_refused(self):
        for few in (0, -1, -2, -8, -64) + tuple(-far for far in FAR):
            for other in (1, 2, 8, 64, 65) + FAR:
                with self.subTest(few=few, other=other):
                    self.assertIs(refusal(laid, few, other), NoSheet)
                    self.assertIs(refusal(laid, other, few), NoSheet)

    def test_two_numbers_below_nought_are_refused_though_their_product_is_good(self):
        for few in (0, -1, -2, -8) + tuple(-far for far in FAR):
            for other in (0, -1, -2, -8) + tuple(-far for far in FAR):
                with self.subTest(few=few, other=other):
                    self.assertIs(refusal(laid, few, other), NoSheet)

    def test_more_than_64_cells_are_refused(self):
        for columns in range(1, 70):
            for rows in range(64 // columns + 1, 70):
                self.assertIs(refusal(laid, columns, rows), NoSheet)
        for far in FAR:
            for other in (1, 2, 64) + FAR:
                self.assertIs(refusal(laid, far, other), NoSheet)
                self.assertIs(refusal(laid, other, far), NoSheet)


class Places(unittest.TestCase):
    """Point 3."""

    def test_each_place_has_a_cell_and_each_cell_one_place(self):
        for columns, rows in SHEETS:
            with self.subTest(columns=columns, rows=rows):
                pile = fold_all(columns, rows, some_folds(columns, rows, "places", 2))
                told = heaps(pile)
                self.assertTrue(all(told.values()))
                found = sorted(cell for heap in told.values() for cell, east, north in heap)
                self.assertEqual(found, list(range(columns * rows)))

    def test_a_place_that_is_not_there_is_refused(self):
        for pile in (laid(1, 1), laid(3, 2), fold_all(4, 4, [("west", True, 1), ("south", False, 3)])):
            beyond_x = (-1, -2, pile.wide, pile.wide + 1, -pile.wide) + FAR + tuple(-far for far in FAR)
            beyond_y = (-1, -2, pile.high, pile.high + 1, -pile.high) + FAR + tuple(-far for far in FAR)
            for x in beyond_x:
                for y in tuple(range(pile.high)) + beyond_y:
                    with self.subTest(x=x, y=y):
                        self.assertIs(refusal(pile.heap, x, y), NoPlace)
            for y in beyond_y:
                for x in range(pile.wide):
                    with self.subTest(x=x, y=y):
                        self.assertIs(refusal(pile.heap, x, y), NoPlace)

    def test_places_of_the_flat_sheet_are_gone_behind_a_fold(self):
        pile = folded(laid(3, 1), "west", True, 1)
        self.assertEqual(pile.heap(1, 0), [(2, False, False)])
        self.assertIs(refusal(pile.heap, 2, 0), NoPlace)


class Folding(unittest.TestCase):
    """Points 5, 6 and 7."""

    def check(self, pile, wide, high, told):
        self.assertEqual((pile.wide, pile.high), (wide, high))
        self.assertEqual(heaps(pile), told)

    def test_west(self):
        moved, stays, last = (0, True, False), (1, False, False), (2, False, False)
        self.check(folded(laid(3, 1), "west", True, 1), 2, 1, {(0, 0): [moved, stays], (1, 0): [last]})
        self.check(folded(laid(3, 1), "west", False, 1), 2, 1, {(0, 0): [stays, moved], (1, 0): [last]})

    def test_west_with_the_longer_part_moving(self):
        told = {(0, 0): [(1, True, False), (2, False, False)], (1, 0): [(0, True, False)]}
        self.check(folded(laid(3, 1), "west", True, 2), 2, 1, told)
        told[(0, 0)].reverse()
        self.check(folded(laid(3, 1), "west", False, 2), 2, 1, told)

    def test_east(self):
        told = {(0, 0): [(0, False, False)], (1, 0): [(2, True, False), (1, False, False)]}
        self.check(folded(laid(3, 1), "east", True, 2), 2, 1, told)
        told[(1, 0)].reverse()
        self.check(folded(laid(3, 1), "east", False, 2), 2, 1, told)

    def test_east_with_the_longer_part_moving(self):
        told = {(0, 0): [(2, True, False)], (1, 0): [(1, True, False), (0, False, False)]}
        self.check(folded(laid(3, 1), "east", True, 1), 2, 1, told)
        told[(1, 0)].reverse()
        self.check(folded(laid(3, 1), "east", False, 1), 2, 1, told)

    def test_north(self):
        told = {(0, 0): [(0, False, True), (1, False, False)], (0, 1): [(2, False, False)]}
        self.check(folded(laid(1, 3), "north", True, 1), 1, 2, told)
        told[(0, 0)].reverse()
        self.check(folded(laid(1, 3), "north", False, 1), 1, 2, told)

    def test_north_with_the_longer_part_moving(self):
        told = {(0, 0): [(1, False, True), (2, False, False)], (0, 1): [(0, False, True)]}
        self.check(folded(laid(1, 3), "north", True, 2), 1, 2, told)
        told[(0, 0)].reverse()
        self.check(folded(laid(1, 3), "north", False, 2), 1, 2, told)

    def test_south(self):
        told = {(0, 0): [(0, False, False)], (0, 1): [(2, False, True), (1, False, False)]}
        self.check(folded(laid(1, 3), "south", True, 2), 1, 2, told)
        told[(0, 1)].reverse()
        self.check(folded(laid(1, 3), "south", False, 2), 1, 2, told)

    def test_south_with_the_longer_part_moving(self):
        told = {(0, 0): [(2, False, True)], (0, 1): [(1, False, True), (0, False, False)]}
        self.check(folded(laid(1, 3), "south", True, 1), 1, 2, told)
        told[(0, 1)].reverse()
        self.check(folded(laid(1, 3), "south", False, 1), 1, 2, told)

    def test_a_heap_that_moves_is_turned(self):
        pile = folded(folded(laid(2, 2), "west", True, 1), "north", True, 1)
        self.check(pile, 1, 1, {(0, 0): [(1, False, True), (0, True, True), (2, True, False), (3, False, False)]})
        pile = folded(folded(laid(2, 2), "west", True, 1), "north", False, 1)
        self.check(pile, 1, 1, {(0, 0): [(2, True, False), (3, False, False), (1, False, True), (0, True, True)]})

    def test_a_cell_turned_twice_at_upright_creases_lies_as_it_lay(self):
        pile = fold_all(4, 1, [("west", True, 2), ("west", True, 1)])
        self.check(pile, 1, 1, {(0, 0): [(2, True, False), (1, False, False), (0, True, False), (3, False, False)]})

    def test_one_fold_of_every_kind_of_every_sheet(self):
        for columns, rows in SHEETS:
            for fold in creases(columns, rows):
                with self.subTest(columns=columns, rows=rows, fold=fold):
                    self.assertEqual(seen(folded(laid(columns, rows), *fold)), modelled(columns, rows, [fold]).seen())

    def check_row(self, columns, rows, folds):
        piles, model = [laid(columns, rows)], Model(columns, rows)
        wanted = [model.seen()]
        for fold in folds:
            piles.append(folded(piles[-1], *fold))
            model.fold(*fold)
            wanted.append(model.seen())
            self.assertEqual(seen(piles[-1]), wanted[-1])
        # Only now: the earlier ones must have stayed through all of the folds.
        self.assertEqual([seen(pile) for pile in piles], wanted)
        self.assertEqual(piles[-1].done(), folds)

    def test_rows_of_folds_until_one_place_is_left(self):
        for columns, rows in SHEETS:
            for seed in range(6):
                with self.subTest(columns=columns, rows=rows, seed=seed):
                    self.check_row(columns, rows, some_folds(columns, rows, seed))

    def test_the_longest_rows_of_folds(self):
        for columns, rows in SHEETS:
            with self.subTest(columns=columns, rows=rows):
                folds = slow_folds(columns, rows)
                self.assertEqual(len(folds), columns + rows - 2)
                self.check_row(columns, rows, folds)

    def test_the_folds_that_are_told(self):
        folds = [("east", True, 1), ("south", False, 2), ("north", True, 1), ("west", False, 2)]
        told = fold_all(4, 3, folds).done()
        self.assertEqual(told, folds)
        for fold in told:
            self.assertIs(type(fold), tuple)
            self.assertEqual([type(part) for part in fold], [str, bool, int])

    def test_a_pile_folded_in_two_ways_bears_both(self):
        pile = folded(laid(4, 2), "west", True, 1)
        before = seen(pile)
        one, other = folded(pile, "east", True, 2), folded(pile, "north", False, 1)
        self.assertEqual(seen(one), modelled(4, 2, [("west", True, 1), ("east", True, 2)]).seen())
        self.assertEqual(seen(other), modelled(4, 2, [("west", True, 1), ("north", False, 1)]).seen())
        self.assertEqual(seen(pile), before)


class Undoing(unittest.TestCase):
    """Point 8."""

    def check_row(self, columns, rows, folds):
        pile, before = laid(columns, rows), []
        for fold in folds:
            before.append(seen(pile))
            pile = folded(pile, *fold)
        while before:
            asked = seen(pile)
            last = pile.done()[-1]
            back = undone(pile)
            self.assertIsNot(back, pile)
            self.assertEqual(seen(back), before.pop())
            self.assertEqual(seen(pile), asked)
            self.assertEqual(seen(folded(back, *last)), asked)
            pile = back
        self.assertEqual(pile.done(), [])
        self.assertEqual(seen(pile), seen(laid(columns, rows)))

    def test_one_by_one(self):
        for columns, rows in SHEETS:
            for seed in range(2):
                with self.subTest(columns=columns, rows=rows, seed=seed):
                    self.check_row(columns, rows, some_folds(columns, rows, seed))

    def test_one_by_one_behind_the_longest_rows(self):
        for columns, rows in ((8, 8), (64, 1), (1, 64), (9, 7), (3, 21)):
            with self.subTest(columns=columns, rows=rows):
                self.check_row(columns, rows, slow_folds(columns, rows))

    def test_another_fold_behind_undoing(self):
        pile = undone(fold_all(4, 3, [("west", True, 1), ("north", False, 2)]))
        pile = folded(pile, "east", False, 1)
        self.assertEqual(seen(pile), modelled(4, 3, [("west", True, 1), ("east", False, 1)]).seen())


class Refusing(unittest.TestCase):
    """Point 9."""

    PILES = [(1, 1, []), (5, 1, []), (1, 5, []), (4, 3, []), (6, 5, [("east", True, 2), ("north", False, 1)])]

    def test_a_side_that_is_none_of_the_four(self):
        words = ("", " ", "up", "West", "WEST", "west ", " east", "wes", "northwest", "w", "over", "level", "north\n")
        for columns, rows, folds in self.PILES:
            pile = fold_all(columns, rows, folds)
            before = seen(pile)
            for word in words:
                for over in (True, False):
                    for crease in (-1, 0, 1, 2, 10 ** 30):
                        with self.subTest(columns=columns, rows=rows, word=word, crease=crease):
                            self.assertIs(refusal(folded, pile, word, over, crease), NoFold)
            self.assertEqual(seen(pile), before)

    def test_a_crease_that_the_pile_does_not_have(self):
        for columns, rows, folds in self.PILES:
            pile = fold_all(columns, rows, folds)
            before = seen(pile)
            for side in SIDES:
                extent = pile.wide if side in ("west", "east") else pile.high
                for crease in (0, -1, -2, 1 - extent, -extent, extent, extent + 1) + FAR + tuple(-far for far in FAR):
                    if 1 <= crease < extent:
                        continue
                    for over in (True, False):
                        with self.subTest(columns=columns, rows=rows, side=side, crease=crease):
                            self.assertIs(refusal(folded, pile, side, over, crease), NoFold)
            self.assertEqual(seen(pile), before)

    def test_width_bounds_upright_creases_and_height_level_ones(self):
        wide, high = laid(5, 2), laid(2, 5)
        for over in (True, False):
            self.assertIsNone(refusal(folded, wide, "west", over, 4))
            self.assertIsNone(refusal(folded, wide, "east", over, 4))
            self.assertIs(refusal(folded, wide, "north", over, 2), NoFold)
            self.assertIs(refusal(folded, wide, "south", over, 2), NoFold)
            self.assertIsNone(refusal(folded, high, "north", over, 4))
            self.assertIsNone(refusal(folded, high, "south", over, 4))
            self.assertIs(refusal(folded, high, "west", over, 2), NoFold)
            self.assertIs(refusal(folded, high, "east", over, 2), NoFold)

    def test_undoing_a_flat_sheet(self):
        for columns, rows in SHEETS:
            self.assertIs(refusal(undone, laid(columns, rows)), NoFold)
        self.assertIs(refusal(undone, undone(folded(laid(2, 1), "west", True, 1))), NoFold)

    def check_severed(self, pile):
        for side in SIDES + ("", "up"):
            for over in (True, False):
                for crease in (1, 2, 0, -1, pile.wide, pile.high, 10 ** 30, -10 ** 30):
                    self.assertIs(refusal(folded, pile, side, over, crease), Severed)
        self.assertIs(refusal(undone, pile), Severed)

    def test_a_cut_joint_is_refused_ahead_of_all_else(self):
        for columns, rows in ((2, 1), (1, 2), (3, 2), (4, 4), (8, 8), (64, 1), (1, 63)):
            for most in (0, 1, 2, 1000):
                pile = fold_all(columns, rows, some_folds(columns, rows, "severed", most))
                for line in lines(pile):
                    with self.subTest(columns=columns, rows=rows, most=most, line=line):
                        if line in [joint[2:] for joint in joints(pile)]:
                            self.check_severed(cut(pile, *line))
                            self.check_severed(cut(cut(pile, *line), False, 0))

    def test_a_knife_that_cuts_nothing_refuses_nothing(self):
        for columns, rows in ((1, 1), (3, 2), (4, 4), (8, 8), (64, 1), (1, 63)):
            for most in (0, 1, 2):
                pile = fold_all(columns, rows, some_folds(columns, rows, "blunt", most))
                taken = [joint[2:] for joint in joints(pile)]
                for line in lines(pile):
                    if line not in taken:
                        with self.subTest(columns=columns, rows=rows, most=most, line=line):
                            self.check_as_ahead(pile, cut(pile, *line))

    def check_as_ahead(self, pile, behind):
        self.assertEqual(seen(behind), seen(pile))
        for fold in creases(pile.wide, pile.high)[:12]:
            self.assertEqual(seen(folded(behind, *fold)), seen(folded(pile, *fold)))
        self.assertIs(refusal(folded, behind, "up", True, 1), NoFold)
        self.assertIs(refusal(folded, behind, "west", True, pile.wide), NoFold)
        if pile.done():
            self.assertEqual(seen(undone(behind)), seen(undone(pile)))
        else:
            self.assertIs(refusal(undone, behind), NoFold)


class Owning(unittest.TestCase):
    """Point 1."""

    def test_a_heap_that_was_told_is_the_askers_own(self):
        pile = fold_all(4, 2, [("west", True, 2), ("north", False, 1)])
        later = folded(pile, "east", True, 1)
        before = seen(pile), seen(later)
        for x in range(2):
            told = pile.heap(x, 0)
            told.append((99, True, True))
            told.reverse()
            told[0] = None
            pile.heap(x, 0).clear()
        self.assertEqual((seen(pile), seen(later)), before)
        self.assertEqual(seen(folded(pile, "east", True, 1)), seen(later))
        self.assertEqual(seen(undone(later)), before[0])

    def test_the_heaps_of_a_laid_sheet(self):
        pile = laid(2, 2)
        pile.heap(0, 0).clear()
        pile.heap(1, 1).append((7, True, False))
        self.assertEqual(seen(pile), Model(2, 2).seen())
        self.assertEqual(seen(laid(2, 2)), Model(2, 2).seen())

    def test_a_heap_that_was_told_behind_a_knife(self):
        pile = fold_all(3, 2, [("west", True, 1)])
        behind = cut(pile, False, 0)
        before = seen(pile), seen(behind)
        behind.heap(0, 0).clear()
        pile.heap(1, 1).clear()
        self.assertEqual((seen(pile), seen(behind)), before)

    def test_the_folds_that_were_told(self):
        pile = fold_all(4, 2, [("west", True, 2), ("north", False, 1)])
        later, behind = folded(pile, "east", True, 1), cut(pile, False, 1)
        before = seen(pile), seen(later), seen(behind)
        for asked in (pile, later, behind):
            asked.done().append(("south", True, 1))
            asked.done().clear()
            told = asked.done()
            told[0] = ("east", False, 1)
        self.assertEqual((seen(pile), seen(later), seen(behind)), before)
        self.assertEqual(seen(undone(later)), before[0])


if __name__ == "__main__":
    unittest.main()
