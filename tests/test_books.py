import copy
import random
import unittest

from leaffold.books import bolts, held, pages, plan, sewn
from leaffold.errors import Ajar, Bolted, Loose, NoPlace
from leaffold.joints import cut
from leaffold.piles import laid
from tests.helper import SHEETS, SIDES, fold_all, lines, modelled, refusal, seen, slow_folds, some_folds

NO_SPINES = ("", " ", "up", "West", "WEST", "west ", " east", "nort", "southwest", "s", "over", "north\n", "0")
EDGES = {"west": (False, 0), "east": (False, 1), "north": (True, 0), "south": (True, 1)}
QUARTO = (2, 2, [("west", True, 1), ("north", True, 1)])
# At its north edge lie the joints of 0 and 2 and of 1 and 3, at its west edge the others.
NORTH, WEST = EDGES["north"], EDGES["west"]


def blank(cells):
    """Prints with no two marks the same and all heads to the north edge."""
    return [(100 + number, False) for number in range(2 * cells)]


def knived(columns, rows, folds, knives=()):
    pile = fold_all(columns, rows, folds)
    for knife in knives:
        pile = cut(pile, *knife)
    return pile


def modelled_pages(model, spine, prints):
    """A second answer: each leaf's head and foot as level lines, mirrored where the leaf is turned over."""
    told = []
    for number, cell in sorted(enumerate(model.cells), key=lambda pair: -pair[1]["height"]):
        front_up = (cell["east"] - cell["west"]) * (cell["south"] - cell["north"]) > 0
        for downward in (False, True):
            mark, to_south = prints[2 * number + (0 if front_up != downward else 1)]
            head, foot = (cell["south"], cell["north"]) if to_south else (cell["north"], cell["south"])
            if downward and spine in ("north", "south"):
                head, foot = -head, -foot
            told.append((mark, head < foot))
    return told


def modelled_thread(model, spine):
    """The cells that are held, those that fall, and the bolts."""
    on, off = set(), []
    for first, second, level, number in model.joints():
        if (level, number) == EDGES[spine]:
            on |= {first, second}
        else:
            off.append((first, second))
    kept = sorted(cell for piece in model.pieces() if on & set(piece) for cell in piece)
    return kept, [cell for cell in range(len(model.cells)) if cell not in kept], off


def shut_piles(seeds):
    """Shut piles of many sheets, with no knife and with some, beside their models."""
    for columns, rows in SHEETS:
        for seed in range(seeds):
            folds = some_folds(columns, rows, f"books {seed}") if seed else slow_folds(columns, rows)
            draw = random.Random(f"{columns} {rows} {seed}")
            for number in range(4):
                pile, model = fold_all(columns, rows, folds), modelled(columns, rows, folds)
                for knife in draw.sample(lines(pile), number):
                    pile = cut(pile, *knife)
                    model.knife(*knife)
                yield pile, model


class Reading(unittest.TestCase):
    """Points 17 to 19."""

    def test_one_leaf(self):
        for spine in ("west", "east"):
            self.assertEqual(pages(laid(1, 1), spine, [(7, False), (-3, False)]), [(7, True), (-3, True)])
            self.assertEqual(pages(laid(1, 1), spine, [(7, True), (-3, False)]), [(7, False), (-3, True)])
            self.assertEqual(pages(laid(1, 1), spine, [(7, False), (-3, True)]), [(7, True), (-3, False)])
        for spine in ("north", "south"):
            self.assertEqual(pages(laid(1, 1), spine, [(7, False), (-3, False)]), [(7, True), (-3, False)])
            self.assertEqual(pages(laid(1, 1), spine, [(7, True), (-3, False)]), [(7, False), (-3, False)])
            self.assertEqual(pages(laid(1, 1), spine, [(7, False), (-3, True)]), [(7, True), (-3, True)])

    def test_a_leaf_that_shows_its_back(self):
        # Cell 0 lies on top with its back upward, cell 1 beneath with its front upward.
        pile = fold_all(2, 1, [("west", True, 1)])
        prints = [(10, False), (11, False), (20, False), (21, True)]
        for spine in ("west", "east"):
            self.assertEqual(pages(pile, spine, prints), [(11, True), (10, True), (20, True), (21, False)])
        for spine in ("north", "south"):
            self.assertEqual(pages(pile, spine, prints), [(11, True), (10, False), (20, True), (21, True)])

    def test_a_leaf_that_is_turned_head_for_foot(self):
        # Cell 0 lies on top with its back upward and its north edge to the south.
        pile = fold_all(1, 2, [("north", True, 1)])
        prints = [(10, False), (11, False), (20, False), (21, False)]
        for spine in ("west", "east"):
            self.assertEqual(pages(pile, spine, prints), [(11, False), (10, False), (20, True), (21, True)])
        for spine in ("north", "south"):
            self.assertEqual(pages(pile, spine, prints), [(11, False), (10, True), (20, True), (21, False)])
        prints[0], prints[1] = (10, True), (11, True)
        for spine in ("west", "east"):
            self.assertEqual(pages(pile, spine, prints), [(11, True), (10, True), (20, True), (21, True)])

    def test_a_leaf_turned_both_ways_shows_its_front(self):
        # From the top: 1 with its back, 0 with its front though it is turned, 2 with its back, 3 with its front.
        marks = [mark for mark, upright in pages(fold_all(*QUARTO), "west", blank(4))]
        self.assertEqual(marks, [103, 102, 100, 101, 105, 104, 106, 107])

    def test_under_is_read_the_other_way(self):
        pile = fold_all(3, 1, [("east", False, 2), ("west", False, 1)])
        self.assertEqual([told[0] for told in pile.heap(0, 0)], [1, 2, 0])
        marks = [mark for mark, upright in pages(pile, "east", blank(3))]
        self.assertEqual(marks, [102, 103, 105, 104, 101, 100])

    def test_marks_are_told_as_they_are(self):
        marks = [0, 0, -1, 10 ** 30]
        told = pages(fold_all(2, 1, [("west", False, 1)]), "west", [(mark, False) for mark in marks])
        self.assertEqual([mark for mark, upright in told], [-1, 10 ** 30, 0, 0])

    def test_a_pile_of_more_places_is_refused(self):
        for pile in (laid(2, 1), laid(1, 2), laid(2, 2), fold_all(4, 4, [("west", True, 2), ("west", True, 1)]),
                     cut(laid(3, 1), False, 1), fold_all(4, 1, [("west", True, 2)]), laid(1, 64), laid(64, 1)):
            before = seen(pile)
            for spine in SIDES + NO_SPINES:
                prints = blank(pile.columns * pile.rows)
                self.assertIs(refusal(pages, pile, spine, prints), Ajar)
                self.assertIs(refusal(plan, pile, spine), Ajar)
                self.assertIs(refusal(held, pile, spine), Ajar)
                self.assertIs(refusal(bolts, pile, spine), Ajar)
                self.assertIs(refusal(sewn, pile, spine, prints), Ajar)
            self.assertEqual(seen(pile), before)

    def test_a_spine_that_is_none_of_the_four_is_refused(self):
        for pile in (laid(1, 1), fold_all(*QUARTO), knived(*QUARTO, [NORTH]), knived(*QUARTO, [NORTH, WEST])):
            for spine in NO_SPINES:
                prints = blank(pile.columns * pile.rows)
                self.assertIs(refusal(pages, pile, spine, prints), NoPlace)
                self.assertIs(refusal(plan, pile, spine), NoPlace)
                self.assertIs(refusal(held, pile, spine), NoPlace)
                self.assertIs(refusal(bolts, pile, spine), NoPlace)
                self.assertIs(refusal(sewn, pile, spine, prints), NoPlace)

    def test_piles_of_every_kind(self):
        draw = random.Random("prints")
        for pile, model in shut_piles(3):
            cells = pile.columns * pile.rows
            prints = [(draw.choice((-9, 0, 3, 10 ** 12, draw.randrange(99))), draw.random() < 0.5) for _ in range(2 * cells)]
            for spine in SIDES:
                with self.subTest(columns=pile.columns, rows=pile.rows, folds=pile.done(), spine=spine):
                    told = pages(pile, spine, prints)
                    self.assertEqual(told, modelled_pages(model, spine, prints))
                    self.assertEqual(len(told), 2 * cells)

    def test_kinds(self):
        told = pages(fold_all(*QUARTO), "south", blank(4))
        self.assertIs(type(told), list)
        for page in told:
            self.assertIs(type(page), tuple)
            self.assertEqual([type(part) for part in page], [int, bool])


class Planning(unittest.TestCase):
    """Point 20."""

    def test_one_leaf(self):
        for spine in ("west", "east"):
            self.assertEqual(plan(laid(1, 1), spine), [(0, False), (1, False)])
        for spine in ("north", "south"):
            self.assertEqual(plan(laid(1, 1), spine), [(0, False), (1, True)])

    def test_two_leaves(self):
        beside, above = fold_all(2, 1, [("west", True, 1)]), fold_all(1, 2, [("north", True, 1)])
        for spine in ("west", "east"):
            self.assertEqual(plan(beside, spine), [(1, False), (0, False), (2, False), (3, False)])
            self.assertEqual(plan(above, spine), [(1, True), (0, True), (2, False), (3, False)])
        for spine in ("north", "south"):
            self.assertEqual(plan(beside, spine), [(1, True), (0, False), (2, False), (3, True)])
            self.assertEqual(plan(above, spine), [(1, False), (0, True), (2, False), (3, True)])

    def test_a_quarto(self):
        for spine in ("west", "east"):
            self.assertEqual(plan(fold_all(*QUARTO), spine), [
                (2, True), (3, True), (1, True), (0, True), (5, False), (4, False), (6, False), (7, False)])
        for spine in ("north", "south"):
            self.assertEqual(plan(fold_all(*QUARTO), spine), [
                (2, True), (3, False), (1, False), (0, True), (5, True), (4, False), (6, False), (7, True)])

    def test_each_page_bears_its_number_and_stands_upright(self):
        for pile, model in shut_piles(3):
            wanted = [(page, True) for page in range(2 * pile.columns * pile.rows)]
            for spine in SIDES:
                with self.subTest(columns=pile.columns, rows=pile.rows, folds=pile.done(), spine=spine):
                    prints = plan(pile, spine)
                    self.assertEqual(modelled_pages(model, spine, prints), wanted)
                    self.assertEqual(pages(pile, spine, prints), wanted)

    def test_one_print_upside_down_is_one_page_upside_down(self):
        pile = fold_all(3, 2, some_folds(3, 2, "plan"))
        for spine in SIDES:
            prints = plan(pile, spine)
            for number in range(12):
                mark, south = prints[number]
                changed = prints[:number] + [(mark, not south)] + prints[number + 1:]
                self.assertEqual(pages(pile, spine, changed), [(page, page != mark) for page in range(12)])

    def test_kinds(self):
        told = plan(fold_all(*QUARTO), "north")
        self.assertIs(type(told), list)
        for printed in told:
            self.assertIs(type(printed), tuple)
            self.assertEqual([type(part) for part in printed], [int, bool])


class Holding(unittest.TestCase):
    """Points 21 and 22."""

    # A strip of four, with the joints of 0 and 1 and of 2 and 3 at the west edge, that of 1 and 2 at the east one.
    STRIP = (4, 1, [("west", True, 2), ("west", True, 1)])
    PILLAR = (1, 4, [("north", True, 2), ("north", True, 1)])

    def test_one_leaf_falls(self):
        for spine in SIDES:
            self.assertEqual(held(laid(1, 1), spine), ([], [0]))
            self.assertEqual(bolts(laid(1, 1), spine), [])

    def test_two_leaves(self):
        for rows, side, other in ((1, "west", "east"), (1, "east", "west"), (2, "north", "south"), (2, "south", "north")):
            pile = fold_all(3 - rows, rows, [(side, True, 1)])
            for spine in SIDES:
                if spine == side:
                    self.assertEqual((held(pile, spine), bolts(pile, spine)), (([0, 1], []), []))
                else:
                    self.assertEqual((held(pile, spine), bolts(pile, spine)), (([], [0, 1]), [(0, 1)]))
            for line in lines(pile):
                behind, kept = cut(pile, *line), line != EDGES[side]
                self.assertEqual(held(behind, side), ([0, 1], []) if kept else ([], [0, 1]))
                self.assertEqual(bolts(behind, other), [(0, 1)] if kept else [])

    def test_a_strip_without_knives(self):
        for case, near, far in ((self.STRIP, "west", "east"), (self.PILLAR, "north", "south")):
            pile = fold_all(*case)
            self.assertEqual(held(pile, near), ([0, 1, 2, 3], []))
            self.assertEqual(bolts(pile, near), [(1, 2)])
            # 0 and 3 hang on leaves that are held.
            self.assertEqual(held(pile, far), ([0, 1, 2, 3], []))
            self.assertEqual(bolts(pile, far), [(0, 1), (2, 3)])
            for spine in set(SIDES) - {near, far}:
                self.assertEqual(held(pile, spine), ([], [0, 1, 2, 3]))
                self.assertEqual(bolts(pile, spine), [(0, 1), (1, 2), (2, 3)])

    def test_a_strip_with_knives(self):
        for case, level, near, far in ((self.STRIP, False, "west", "east"), (self.PILLAR, True, "north", "south")):
            opened = knived(*case, [(level, 0)])
            self.assertEqual((held(opened, far), bolts(opened, far)), (([1, 2], [0, 3]), []))
            self.assertEqual((held(opened, near), bolts(opened, near)), (([], [0, 1, 2, 3]), [(1, 2)]))
            opened = knived(*case, [(level, 1)])
            self.assertEqual((held(opened, near), bolts(opened, near)), (([0, 1, 2, 3], []), []))
            self.assertEqual((held(opened, far), bolts(opened, far)), (([], [0, 1, 2, 3]), [(0, 1), (2, 3)]))
            opened = knived(*case, [(level, 1), (level, 0)])
            for spine in SIDES:
                self.assertEqual((held(opened, spine), bolts(opened, spine)), (([], [0, 1, 2, 3]), []))

    def test_a_quarto(self):
        pile = fold_all(*QUARTO)
        every = [(0, 1), (0, 2), (1, 3), (2, 3)]
        self.assertEqual((held(pile, "west"), bolts(pile, "west")), (([0, 1, 2, 3], []), [(0, 2), (1, 3)]))
        self.assertEqual((held(pile, "north"), bolts(pile, "north")), (([0, 1, 2, 3], []), [(0, 1), (2, 3)]))
        self.assertEqual((held(pile, "east"), bolts(pile, "east")), (([], [0, 1, 2, 3]), every))
        self.assertEqual((held(pile, "south"), bolts(pile, "south")), (([], [0, 1, 2, 3]), every))

    def test_pieces_that_lie_apart_are_told_rising(self):
        # Three columns, of which the last two are folded in: the middle joints are at the east, the first at the west.
        pile = knived(3, 2, [("east", True, 2), ("west", True, 1), ("north", True, 1)], [(True, 0), (False, 0)])
        self.assertEqual(held(pile, "east"), ([1, 2, 4, 5], [0, 3]))
        self.assertEqual(bolts(pile, "east"), [])

    def test_piles_of_every_kind(self):
        mixed = 0
        for pile, model in shut_piles(4):
            for spine in SIDES:
                with self.subTest(columns=pile.columns, rows=pile.rows, folds=pile.done(), spine=spine):
                    kept, fallen, off = modelled_thread(model, spine)
                    mixed += bool(kept and fallen)
                    self.assertEqual(held(pile, spine), (kept, fallen))
                    self.assertEqual(bolts(pile, spine), off)
        self.assertGreater(mixed, 20)

    def test_kinds(self):
        pile = knived(*self.STRIP, [(False, 0)])
        told = held(pile, "east")
        self.assertIs(type(told), tuple)
        self.assertEqual([type(part) for part in told], [list, list])
        self.assertEqual([type(cell) for part in told for cell in part], [int] * 4)
        told = bolts(pile, "west")
        self.assertIs(type(told), list)
        self.assertIs(type(told[0]), tuple)
        self.assertEqual([type(part) for part in told[0]], [int, int])


class Sewing(unittest.TestCase):
    """Point 23."""

    def test_a_pile_without_bolts(self):
        pile = fold_all(2, 1, [("west", True, 1)])
        prints = [(10, False), (11, True), (20, False), (21, False)]
        self.assertEqual(sewn(pile, "west", prints), [(11, False), (10, True), (20, True), (21, True)])
        self.assertIs(refusal(sewn, pile, "east", prints), Bolted)
        pile = fold_all(1, 2, [("south", False, 1)])
        self.assertEqual(sewn(pile, "south", prints), [(10, True), (11, True), (21, False), (20, True)])
        self.assertIs(refusal(sewn, pile, "north", prints), Bolted)

    def test_a_quarto_cut_open(self):
        pile = knived(*QUARTO, [NORTH])
        self.assertEqual(sewn(pile, "west", plan(pile, "west")), [(page, True) for page in range(8)])
        self.assertEqual(sewn(pile, "west", plan(pile, "north")), pages(pile, "west", plan(pile, "north")))
        pile = knived(*QUARTO, [WEST])
        self.assertEqual(sewn(pile, "north", plan(pile, "north")), [(page, True) for page in range(8)])

    def test_each_refusal_ahead_of_the_next(self):
        whole, open_north, open_west = fold_all(*QUARTO), knived(*QUARTO, [NORTH]), knived(*QUARTO, [WEST])
        loose = knived(*QUARTO, [NORTH, WEST])
        ajar = fold_all(2, 2, [("west", True, 1)])
        for pile, spine, wanted in (
            (ajar, "up", Ajar), (ajar, "west", Ajar), (ajar, "east", Ajar),
            (whole, "up", NoPlace), (open_north, "up", NoPlace), (loose, "up", NoPlace), (laid(1, 1), "up", NoPlace),
            # All leaves are held, but there are bolts; then bolts and leaves that fall.
            (whole, "west", Bolted), (whole, "north", Bolted),
            (whole, "east", Bolted), (open_west, "west", Bolted), (open_north, "south", Bolted),
            (loose, "west", Loose), (loose, "south", Loose), (laid(1, 1), "west", Loose), (laid(1, 1), "south", Loose),
            (open_north, "west", None), (open_west, "north", None),
        ):
            with self.subTest(folds=pile.done(), spine=spine):
                self.assertIs(refusal(sewn, pile, spine, blank(4)), wanted)

    def test_one_leaf_that_falls_is_enough(self):
        pile = knived(4, 1, [("west", True, 2), ("west", True, 1)], [(False, 0)])
        self.assertEqual(held(pile, "east"), ([1, 2], [0, 3]))
        self.assertIs(refusal(sewn, pile, "east", blank(4)), Loose)
        pile = knived(3, 1, [("east", True, 2), ("west", True, 1)], [(False, 0)])
        self.assertEqual(held(pile, "east"), ([1, 2], [0]))
        self.assertIs(refusal(sewn, pile, "east", blank(3)), Loose)

    def test_piles_of_every_kind(self):
        found = {None: 0, Bolted: 0, Loose: 0}
        for pile, model in shut_piles(4):
            prints = blank(pile.columns * pile.rows)
            for spine in SIDES:
                kept, fallen, off = modelled_thread(model, spine)
                wanted = Bolted if off else Loose if fallen else None
                found[wanted] += 1
                with self.subTest(columns=pile.columns, rows=pile.rows, folds=pile.done(), spine=spine):
                    self.assertIs(refusal(sewn, pile, spine, prints), wanted)
                    if wanted is None:
                        self.assertEqual(sewn(pile, spine, prints), modelled_pages(model, spine, prints))
        self.assertTrue(all(times > 20 for times in found.values()), found)


class Owning(unittest.TestCase):
    """Point 1."""

    def test_nothing_that_is_handed_in_is_changed(self):
        for pile in (knived(*QUARTO, [NORTH]), fold_all(*QUARTO)):
            prints = blank(4)
            before, kept = seen(pile), copy.deepcopy(prints)
            for spine in SIDES:
                pages(pile, spine, prints)
                plan(pile, spine)
                held(pile, spine)
                bolts(pile, spine)
                refusal(sewn, pile, spine, prints)
            self.assertEqual(seen(pile), before)
            self.assertEqual(prints, kept)

    def test_prints_are_not_kept(self):
        pile, prints = knived(*QUARTO, [NORTH]), blank(4)
        first = pages(pile, "west", prints)
        kept = list(first)
        prints[3] = (5, True)
        self.assertEqual(first, kept)
        self.assertEqual(pages(pile, "west", prints)[0], (5, True))
        self.assertEqual(sewn(pile, "west", prints)[0], (5, True))

    def test_what_is_told_is_the_askers_own(self):
        pile, prints = knived(4, 1, [("west", True, 2), ("west", True, 1)], [(False, 1)]), blank(4)
        before = seen(pile)

        def ask():
            return [pages(pile, "west", prints), plan(pile, "west"), held(pile, "west")[0], held(pile, "west")[1],
                    held(pile, "east")[1], bolts(pile, "east"), bolts(pile, "west"), sewn(pile, "west", prints)]
        wanted = copy.deepcopy(ask())
        for told in ask():
            told.append(99)
            told.reverse()
            told.clear()
        self.assertEqual(ask(), wanted)
        self.assertEqual(seen(pile), before)


if __name__ == "__main__":
    unittest.main()
