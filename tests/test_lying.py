import copy
import itertools
import random
import unittest

from leaffold.lying import fault
from tests.helper import SHEETS, fold_all, some_folds

FLAGS = (False, True)


def heaps_of(pile):
    return [pile.heap(x, y) for y in range(pile.high) for x in range(pile.wide)]


def strip(text, *heaps):
    """Heaps of a level strip: its cells, each with its east by one sign of the text, F or T."""
    return [[(cell, text[cell] == "T", False) for cell in heap] for heap in heaps]


def upended(heaps):
    """The heaps of a strip, the strip and its places going down where they went to the east."""
    return [[(cell, north, east) for cell, east, north in heap] for heap in heaps]


def corner(told, x, y, to_east, to_south):
    """Where a corner of a cell lies, the one at its east or west and its south or north edge."""
    return (x + (to_east != told[1]), y + (to_south != told[2]))


def sheet_joints(columns, rows):
    found = []
    for first in range(columns * rows):
        if (first + 1) % columns:
            found.append((first, first + 1, False))
        if first + columns < columns * rows:
            found.append((first, first + columns, True))
    return found


def modelled_fault(columns, rows, wide, high, heaps):
    """A second answer: joints are edges of which both corners meet, and chords round a line that may cross."""
    lying = {}
    for number, heap in enumerate(heaps):
        for depth, told in enumerate(heap):
            lying.setdefault(told[0], []).append((told, number % wide, number // wide, depth))
    for cell in range(columns * rows):
        if len(lying.get(cell, [])) != 1:
            return ("cell", cell)
    chords = []
    for first, second, level in sheet_joints(columns, rows):
        one, other = lying[first][0], lying[second][0]
        if level:
            ends = [(corner(*one[:3], side, True), corner(*other[:3], side, False)) for side in FLAGS]
        else:
            ends = [(corner(*one[:3], True, side), corner(*other[:3], False, side)) for side in FLAGS]
        if any(here != there for here, there in ends):
            return ("torn", first, second)
        # Both heaps of the line stand on a ring, the near one downward and the far one upward.
        line = tuple(sorted(here for here, there in ends))
        ring = []
        for told, x, y, depth in (one, other):
            near = (y < line[0][1]) if level else (x < line[0][0])
            ring.append((0, depth) if near else (1, -depth))
        chords.append((first, second, line, sorted(ring)))
    for one, other in itertools.combinations(chords, 2):
        if one[2] == other[2]:
            inside = [one[3][0] < point < one[3][1] for point in other[3]]
            if inside[0] != inside[1]:
                return ("crossed",) + one[:2] + other[:2]
    return None


class Well(unittest.TestCase):
    """Points 14 and 16: nothing amiss."""

    def test_one_cell_however_it_lies(self):
        for east in FLAGS:
            for north in FLAGS:
                self.assertIsNone(fault(1, 1, 1, 1, [[(0, east, north)]]))

    def test_one_cell_and_empty_heaps(self):
        for wide, high in ((2, 1), (1, 2), (3, 3)):
            for place in range(wide * high):
                heaps = [[] for _ in range(wide * high)]
                heaps[place].append((0, True, False))
                self.assertIsNone(fault(1, 1, wide, high, heaps))

    def test_a_flat_sheet(self):
        heaps = [[(cell, False, False)] for cell in range(6)]
        self.assertIsNone(fault(3, 2, 3, 2, heaps))
        self.assertIsNone(fault(2, 3, 2, 3, heaps))

    def test_a_flat_sheet_that_is_turned(self):
        self.assertIsNone(fault(3, 2, 3, 2, [[(cell, True, False)] for cell in (2, 1, 0, 5, 4, 3)]))
        self.assertIsNone(fault(3, 2, 3, 2, [[(cell, False, True)] for cell in (3, 4, 5, 0, 1, 2)]))
        self.assertIsNone(fault(3, 2, 3, 2, [[(cell, True, True)] for cell in (5, 4, 3, 2, 1, 0)]))

    def test_a_flat_sheet_amid_empty_heaps(self):
        heaps = [[] for _ in range(12)]
        heaps[5], heaps[6] = [(0, False, False)], [(1, False, False)]
        self.assertIsNone(fault(2, 1, 4, 3, heaps))
        # One place on the second cell lies at the west edge, a row further south.
        heaps[5], heaps[6], heaps[7], heaps[8] = [], [], [(0, False, False)], [(1, False, False)]
        self.assertEqual(fault(2, 1, 4, 3, heaps), ("torn", 0, 1))

    def test_bends(self):
        for order in ((0, 1), (1, 0)):
            for text in ("FT", "TF"):
                heaps = strip(text, order)
                self.assertIsNone(fault(2, 1, 1, 1, heaps))
                self.assertIsNone(fault(1, 2, 1, 1, upended(heaps)))

    def test_piles_of_every_kind_lie_well(self):
        for columns, rows in SHEETS:
            for seed in range(3):
                for most in (0, 1, 2, 3, 1000):
                    folds = some_folds(columns, rows, seed, most)
                    pile = fold_all(columns, rows, folds)
                    with self.subTest(columns=columns, rows=rows, folds=folds):
                        self.assertIsNone(fault(columns, rows, pile.wide, pile.high, heaps_of(pile)))

    def test_so_many_ways_to_fold_a_strip_of_stamps(self):
        for cells, ways in ((1, 1), (2, 2), (3, 6), (4, 16), (5, 50), (6, 144), (7, 462)):
            for text in ("FTFTFTF", "TFTFTFT"):
                orders = [strip(text, order) for order in itertools.permutations(range(cells))]
                self.assertEqual([fault(cells, 1, 1, 1, heaps) for heaps in orders].count(None), ways)
                self.assertEqual([fault(1, cells, 1, 1, upended(heaps)) for heaps in orders].count(None), ways)

    def test_so_many_ways_to_fold_a_map(self):
        for columns, rows, ways in ((2, 2, 8), (3, 2, 60), (2, 3, 60)):
            told = [(cell, cell % columns % 2 == 1, cell // columns % 2 == 1) for cell in range(columns * rows)]
            found = [fault(columns, rows, 1, 1, [list(heap)]) for heap in itertools.permutations(told)]
            self.assertEqual(found.count(None), ways)


class Astray(unittest.TestCase):
    """Point 14: cells that do not lie there just once."""

    def test_a_cell_missing(self):
        self.assertEqual(fault(1, 1, 1, 1, [[]]), ("cell", 0))
        self.assertEqual(fault(2, 1, 2, 1, [[(0, False, False)], []]), ("cell", 1))
        self.assertEqual(fault(2, 1, 2, 1, [[], [(1, False, False)]]), ("cell", 0))
        self.assertEqual(fault(8, 8, 1, 1, [[(cell, False, False) for cell in range(63)]]), ("cell", 63))

    def test_a_cell_twice(self):
        self.assertEqual(fault(1, 1, 1, 1, [[(0, False, False), (0, False, False)]]), ("cell", 0))
        self.assertEqual(fault(1, 1, 2, 1, [[(0, False, False)], [(0, True, True)]]), ("cell", 0))
        flat = [[(cell, False, False)] for cell in range(3)]
        for cell in range(3):
            for place in range(3):
                heaps = copy.deepcopy(flat)
                heaps[place].append((cell, False, True))
                self.assertEqual(fault(3, 1, 3, 1, heaps), ("cell", cell))
                # Three times, and an even number of times.
                heaps[place].append((cell, False, False))
                self.assertEqual(fault(3, 1, 3, 1, heaps), ("cell", cell))
                heaps[place].append((cell, False, False))
                self.assertEqual(fault(3, 1, 3, 1, heaps), ("cell", cell))

    def test_the_least_one_is_told_of_missing_and_double_cells(self):
        def flat(*cells):
            return [[(cell, False, False)] for cell in cells]
        self.assertEqual(fault(4, 1, 4, 1, flat(0, 1, 1, 3)), ("cell", 1))
        self.assertEqual(fault(4, 1, 4, 1, flat(0, 2, 2, 3)), ("cell", 1))
        self.assertEqual(fault(4, 1, 4, 1, flat(3, 3, 1, 0)), ("cell", 2))
        self.assertEqual(fault(4, 1, 4, 1, flat(2, 2, 2, 2)), ("cell", 0))

    def test_ahead_of_a_torn_joint_and_of_joints_that_cross(self):
        self.assertEqual(fault(3, 1, 3, 1, [[(1, False, False)], [(0, False, False)], []]), ("cell", 2))
        self.assertEqual(fault(5, 1, 1, 1, strip("FTFTF", (0, 2, 1, 3))), ("cell", 4))
        self.assertEqual(fault(4, 1, 1, 1, strip("FTFT", (0, 2, 1, 3, 3))), ("cell", 3))


class Torn(unittest.TestCase):
    """Point 14: joints that are torn."""

    def check(self, wanted, wide, heaps):
        """A strip of two in a row of places, and the same one upended."""
        self.assertEqual(fault(2, 1, wide, 1, heaps), wanted)
        self.assertEqual(fault(1, 2, 1, wide, upended(heaps)), wanted)

    def test_two_neighbours_in_a_row_of_places(self):
        for west, east, text in ((0, 1, "FF"), (1, 0, "TT")):
            self.check(None, 2, strip(text, [west], [east]))
            self.check(None, 3, strip(text, [], [west], [east]))
            self.check(("torn", 0, 1), 2, strip(text, [east], [west]))
            self.check(("torn", 0, 1), 3, strip(text, [west], [], [east]))
            self.check(("torn", 0, 1), 1, strip(text, [west, east]))
            self.check(("torn", 0, 1), 1, strip(text, [east, west]))
        for text in ("FT", "TF"):
            self.check(("torn", 0, 1), 2, strip(text, [0], [1]))
            self.check(("torn", 0, 1), 2, strip(text, [1], [0]))
            self.check(("torn", 0, 1), 3, strip(text, [0], [], [1]))
            self.check(None, 1, strip(text, [0, 1]))

    def test_norths_that_are_not_the_same(self):
        self.check(("torn", 0, 1), 2, [[(0, False, True)], [(1, False, False)]])
        self.check(("torn", 0, 1), 2, [[(0, False, False)], [(1, False, True)]])
        self.check(("torn", 0, 1), 1, [[(0, False, False), (1, True, True)]])
        self.check(None, 2, [[(0, False, True)], [(1, False, True)]])
        self.check(None, 1, [[(0, True, True), (1, False, True)]])

    def test_not_in_the_same_row_of_places(self):
        one, other = [(0, False, False)], [(1, False, False)]
        turned = [(1, True, False)]
        self.assertEqual(fault(2, 1, 2, 2, [one, [], [], other]), ("torn", 0, 1))
        self.assertEqual(fault(2, 1, 2, 2, [[], other, one, []]), ("torn", 0, 1))
        self.assertEqual(fault(2, 1, 1, 2, [one, other]), ("torn", 0, 1))
        self.assertEqual(fault(2, 1, 1, 2, [one, turned]), ("torn", 0, 1))
        self.assertIsNone(fault(2, 1, 2, 2, [[], [], one, other]))

    def test_not_in_the_same_column_of_places(self):
        one, other = [(0, False, False)], [(1, False, False)]
        turned = [(1, False, True)]
        self.assertEqual(fault(1, 2, 2, 2, [one, [], [], other]), ("torn", 0, 1))
        self.assertEqual(fault(1, 2, 2, 2, [[], one, other, []]), ("torn", 0, 1))
        self.assertEqual(fault(1, 2, 2, 1, [one, other]), ("torn", 0, 1))
        self.assertEqual(fault(1, 2, 2, 1, [one, turned]), ("torn", 0, 1))
        self.assertIsNone(fault(1, 2, 2, 2, [[], one, [], other]))

    def test_the_first_one_is_told(self):
        def flat(*cells):
            return [[(cell, False, False)] for cell in cells]
        self.assertEqual(fault(4, 1, 4, 1, flat(0, 1, 3, 2)), ("torn", 1, 2))
        self.assertEqual(fault(4, 1, 4, 1, flat(1, 0, 2, 3)), ("torn", 0, 1))
        # Cells 2 and 3 changed over: the joint to the south of cell 0 goes ahead of that of 2 and 3.
        self.assertEqual(fault(2, 2, 2, 2, flat(0, 1, 3, 2)), ("torn", 0, 2))
        self.assertEqual(fault(2, 2, 2, 2, flat(0, 3, 2, 1)), ("torn", 0, 1))
        self.assertEqual(fault(2, 2, 2, 2, flat(2, 1, 0, 3)), ("torn", 0, 1))
        self.assertEqual(fault(3, 2, 3, 2, flat(0, 1, 2, 3, 5, 4)), ("torn", 1, 4))
        self.assertEqual(fault(3, 2, 3, 2, flat(0, 1, 5, 3, 4, 2)), ("torn", 1, 2))

    def test_ahead_of_joints_that_cross(self):
        heap = [(0, False, False), (2, False, False), (1, True, False), (3, True, False), (4, False, True)]
        self.assertEqual(fault(5, 1, 1, 1, [heap]), ("torn", 3, 4))
        self.assertEqual(fault(4, 1, 1, 1, [heap[:4]]), ("crossed", 0, 1, 2, 3))


class Crossed(unittest.TestCase):
    """Points 14 and 15: joints that cross."""

    def check(self, wanted, cells, wide, heaps):
        """A strip in a row of places, the same one upended, and both turned over as a whole."""
        self.assertEqual(fault(cells, 1, wide, 1, heaps), wanted)
        self.assertEqual(fault(1, cells, 1, wide, upended(heaps)), wanted)
        over = [[(cell, not east, north) for cell, east, north in reversed(heap)] for heap in reversed(heaps)]
        self.assertEqual(fault(cells, 1, wide, 1, over), wanted)
        self.assertEqual(fault(1, cells, 1, wide, upended(over)), wanted)

    def test_two_bends(self):
        crossed = ("crossed", 0, 1, 2, 3)
        for order in ((0, 2, 1, 3), (0, 3, 1, 2), (1, 2, 0, 3), (1, 3, 0, 2), (2, 0, 3, 1), (3, 1, 2, 0)):
            self.check(crossed, 4, 1, strip("FTFT", order))
        for order in ((0, 1, 2, 3), (0, 2, 3, 1), (2, 0, 1, 3), (0, 1, 3, 2), (3, 2, 1, 0), (1, 2, 3, 0)):
            self.check(None, 4, 1, strip("FTFT", order))

    def test_two_bends_on_the_two_lines_of_a_heap(self):
        # The cells of 0 and 1 and those of 3 and 4 lie in turn, but one joint is in the east and one in the west.
        self.check(None, 5, 1, strip("FTFTF", (0, 3, 2, 1, 4)))

    def test_a_bend_behind_a_bridge(self):
        for order in ((2, 1, 3), (3, 1, 2)):
            self.check(("crossed", 0, 1, 2, 3), 4, 2, strip("FFTF", [0], order))
        for order in ((1, 2, 3), (1, 3, 2), (2, 3, 1), (3, 2, 1)):
            self.check(None, 4, 2, strip("FFTF", [0], order))

    def test_a_bend_ahead_of_a_bridge(self):
        for order in ((0, 2, 1), (1, 2, 0)):
            self.check(("crossed", 0, 1, 2, 3), 4, 2, strip("TFTT", [3], order))
        for order in ((2, 1, 0), (2, 0, 1), (0, 1, 2), (1, 0, 2)):
            self.check(None, 4, 2, strip("TFTT", [3], order))

    def test_two_bridges_that_go_in_contrary_directions(self):
        for near, far, wanted in (((0, 3), (1, 2), None), ((3, 0), (2, 1), None),
                                  ((0, 3), (2, 1), ("crossed", 0, 1, 2, 3)), ((3, 0), (1, 2), ("crossed", 0, 1, 2, 3))):
            self.check(wanted, 4, 2, strip("FFTT", near, far))

    def test_two_bridges_that_go_in_the_same_direction(self):
        def heap(*cells):
            return [(cell, False, cell < 2) for cell in cells]
        crossed = ("crossed", 0, 1, 2, 3)
        for near, far, wanted in (((0, 2), (1, 3), None), ((2, 0), (3, 1), None),
                                  ((0, 2), (3, 1), crossed), ((2, 0), (1, 3), crossed)):
            self.assertEqual(fault(2, 2, 2, 1, [heap(*near), heap(*far)]), wanted)
        def upright(*cells):
            return [(cell, cell % 2 == 0, False) for cell in cells]
        crossed = ("crossed", 0, 2, 1, 3)
        for near, far, wanted in (((0, 1), (2, 3), None), ((1, 0), (3, 2), None),
                                  ((0, 1), (3, 2), crossed), ((1, 0), (2, 3), crossed)):
            self.assertEqual(fault(2, 2, 1, 2, [upright(*near), upright(*far)]), wanted)

    def test_bends_in_the_two_heaps_of_a_line(self):
        # On line 1 the bend of 0 and 1 lies to the west, that of 6 and 7 to the east, at depths that go in turn.
        heaps = strip("FTFTFFTF", (4, 0, 3, 2, 1), (5, 6, 7))
        self.check(None, 8, 2, heaps)

    def test_joints_on_one_line_in_two_rows_of_places(self):
        # Two strips that are bent alike and lie one south of the other.
        north, south = (0, 1, 2, 3), (4, 5, 6, 7)
        heaps = [[(cell, cell % 2 == 1, False) for cell in row] for row in (north, south)]
        self.assertIsNone(fault(4, 2, 1, 2, heaps))

    def test_of_many_pairs_that_whose_one_goes_first(self):
        self.check(("crossed", 0, 1, 2, 3), 6, 1, strip("FTFTFT", (0, 2, 4, 1, 3, 5)))
        self.check(("crossed", 0, 1, 6, 7), 8, 1, strip("FTFTFTFT", (0, 6, 1, 7, 2, 4, 3, 5)))
        self.check(("crossed", 0, 1, 4, 5), 8, 1, strip("FTFTFTFT", (0, 6, 4, 1, 5, 7, 2, 3)))
        self.check(("crossed", 1, 2, 3, 4), 5, 1, strip("FTFTF", (0, 1, 3, 2, 4)))

    def test_of_both_kinds_that_which_goes_first(self):
        # A map of two by two in one heap: the joint to the east of cell 0 goes first, then that to its south.
        def heap(*cells):
            return [(cell, cell % 2 == 1, cell > 1) for cell in cells]
        self.assertEqual(fault(2, 2, 1, 1, [heap(0, 1, 3, 2)]), None)
        self.assertEqual(fault(2, 2, 1, 1, [heap(0, 3, 2, 1)]), ("crossed", 0, 2, 1, 3))
        self.assertEqual(fault(2, 2, 1, 1, [heap(0, 2, 1, 3)]), ("crossed", 0, 1, 2, 3))
        self.assertEqual(fault(2, 2, 1, 1, [heap(0, 1, 2, 3)]), ("crossed", 0, 2, 1, 3))
        self.assertEqual(fault(2, 2, 1, 1, [heap(0, 3, 1, 2)]), ("crossed", 0, 1, 2, 3))


class AnyHeaps(unittest.TestCase):
    """Points 14 to 16 against the second answer."""

    def disturb(self, draw, heaps):
        full = [heap for heap in heaps if heap]
        heap = draw.choice(full)
        spot = draw.randrange(len(heap))
        step = draw.randrange(12)
        if step < 6:
            draw.shuffle(heap)
        elif step < 8:
            heap[spot], heap[0] = heap[0], heap[spot]
        elif step == 8:
            cell, east, north = heap[spot]
            heap[spot] = (cell, not east, north) if draw.random() < 0.5 else (cell, east, not north)
        elif step == 9:
            draw.choice(heaps).insert(0, heap.pop(spot))
        elif step == 10:
            heap.pop(spot)
        else:
            draw.choice(heaps).append(heap[spot])

    def test_heaps_that_were_disturbed(self):
        found = {"cell": 0, "torn": 0, "crossed": 0, None: 0}
        for columns, rows in SHEETS:
            draw = random.Random(f"{columns} {rows}")
            for seed in range(30):
                pile = fold_all(columns, rows, some_folds(columns, rows, seed, draw.randrange(8)))
                heaps = heaps_of(pile)
                for _ in range(draw.choice((1, 1, 1, 2))):
                    if any(heaps):
                        self.disturb(draw, heaps)
                told = fault(columns, rows, pile.wide, pile.high, heaps)
                found[told and told[0]] += 1
                with self.subTest(columns=columns, rows=rows, heaps=heaps):
                    self.assertEqual(told, modelled_fault(columns, rows, pile.wide, pile.high, heaps))
        self.assertTrue(all(times > 100 for times in found.values()), found)

    def test_strips_that_wander_over_a_few_places(self):
        found = {"crossed": 0, None: 0}
        draw = random.Random("strips")
        for cells in (3, 4, 5, 6, 7, 8, 10):
            for _ in range(150):
                heaps = self.wandering(draw, cells, 3)
                for told, wanted in (
                    (fault(cells, 1, 3, 1, heaps), modelled_fault(cells, 1, 3, 1, heaps)),
                    (fault(1, cells, 1, 3, upended(heaps)), modelled_fault(1, cells, 1, 3, upended(heaps))),
                ):
                    found[told and told[0]] += 1
                    self.assertEqual(told, wanted, heaps)
        self.assertTrue(all(times > 300 for times in found.values()), found)

    def wandering(self, draw, cells, wide):
        """A strip that bends or goes on at each joint as it likes, and lies in any order in each heap."""
        heaps = [[] for _ in range(wide)]
        place, east = draw.randrange(wide), draw.random() < 0.5
        for cell in range(cells):
            heaps[place].append((cell, east, False))
            onward = place + (-1 if east else 1)
            if 0 <= onward < wide and draw.random() < 0.5:
                place = onward
            else:
                east = not east
        for heap in heaps:
            draw.shuffle(heap)
        return heaps


class Owning(unittest.TestCase):
    """Point 1."""

    CASES = [
        (2, 1, 2, 1, [[(0, False, False)], [(1, False, False)]]),
        (2, 1, 2, 1, [[(0, False, False)], []]),
        (2, 1, 2, 1, [[(1, False, False)], [(0, False, False)]]),
        (4, 1, 1, 1, strip("FTFT", (0, 2, 1, 3))),
    ]

    def test_the_heaps_stay_as_they_were(self):
        for case in self.CASES:
            before = copy.deepcopy(case)
            first = fault(*case)
            self.assertEqual(case, before)
            self.assertEqual(fault(*case), first)

    def test_the_heaps_are_not_kept(self):
        heaps = [[(0, False, False)], [(1, False, False)]]
        self.assertIsNone(fault(2, 1, 2, 1, heaps))
        heaps[1].clear()
        self.assertEqual(fault(2, 1, 2, 1, heaps), ("cell", 1))
        heaps[1].append((1, True, False))
        self.assertEqual(fault(2, 1, 2, 1, heaps), ("torn", 0, 1))

    def test_kinds(self):
        kinds = []
        for case in self.CASES:
            told = fault(*case)
            if told is not None:
                self.assertIs(type(told), tuple)
                kinds.append([type(part) for part in told])
        self.assertEqual(kinds, [[str, int], [str, int, int], [str, int, int, int, int]])


if __name__ == "__main__":
    unittest.main()
