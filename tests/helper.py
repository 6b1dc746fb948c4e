"""What the tests share: a second, geometric model of a pile, and looks at piles.

The model keeps for each cell the lines at which its four edges lie and a
height, and mirrors them at a crease. It knows nothing of heaps, of turned
cells or of strips of places, so that it can't share a slip with the program.
"""

import random

from leaffold.joints import joints, pieces
from leaffold.piles import folded, laid

SIDES = ("west", "east", "north", "south")
FAR = (10 ** 9, 10 ** 20, 10 ** 30)

# Small ones of every shape, long strips either way, and those of 63 and 64 cells.
SMALL_SHEETS = [(columns, rows) for columns in range(1, 9) for rows in range(1, 9)]
LARGE_SHEETS = [
    (64, 1), (1, 64), (32, 2), (2, 32), (16, 4), (4, 16),
    (63, 1), (1, 63), (21, 3), (3, 21), (9, 7), (7, 9),
]
SHEETS = SMALL_SHEETS + LARGE_SHEETS


class Model:
    def __init__(self, columns, rows):
        self.columns = columns
        self.rows = rows
        self.folds = []
        self.cut = set()
        self.cells = []
        for y in range(rows):
            for x in range(columns):
                self.cells.append({"west": x, "east": x + 1, "north": y, "south": y + 1, "height": 0})

    def extent(self, one, other):
        return max(max(cell[one], cell[other]) for cell in self.cells)

    @property
    def wide(self):
        return self.extent("west", "east")

    @property
    def high(self):
        return self.extent("north", "south")

    def fold(self, side, over, crease):
        one, other = ("west", "east") if side in ("west", "east") else ("north", "south")
        top = max(cell["height"] for cell in self.cells)
        bottom = min(cell["height"] for cell in self.cells)
        for cell in self.cells:
            before = max(cell[one], cell[other]) <= crease
            if before == (side == one):
                cell[one] = 2 * crease - cell[one]
                cell[other] = 2 * crease - cell[other]
                mirror = 2 * top + 1 if over else 2 * bottom - 1
                cell["height"] = mirror - cell["height"]
        edge = min(min(cell[one], cell[other]) for cell in self.cells)
        for cell in self.cells:
            cell[one] -= edge
            cell[other] -= edge
        self.folds.append((side, over, crease))

    def heaps(self):
        table = {}
        for number, cell in enumerate(self.cells):
            place = (min(cell["west"], cell["east"]), min(cell["north"], cell["south"]))
            told = (number, cell["west"] > cell["east"], cell["north"] > cell["south"])
            table.setdefault(place, []).append((-cell["height"], told))
        return {place: [told for height, told in sorted(heap)] for place, heap in table.items()}

    def every_joint(self):
        found = []
        for y in range(self.rows):
            for x in range(self.columns):
                first = y * self.columns + x
                if x + 1 < self.columns:
                    found.append((first, first + 1, False, self.cells[first]["east"]))
                if y + 1 < self.rows:
                    found.append((first, first + self.columns, True, self.cells[first]["south"]))
        return found

    def joints(self):
        return [joint for joint in self.every_joint() if joint[:2] not in self.cut]

    def knife(self, level, number):
        self.cut |= {joint[:2] for joint in self.every_joint() if joint[2:] == (level, number)}

    def pieces(self):
        neighbours = {cell: [] for cell in range(len(self.cells))}
        for first, second, _, _ in self.joints():
            neighbours[first].append(second)
            neighbours[second].append(first)
        found, met = [], set()
        for cell in range(len(self.cells)):
            if cell not in met:
                piece, waiting = {cell}, [cell]
                while waiting:
                    fresh = [near for near in neighbours[waiting.pop()] if near not in piece]
                    piece.update(fresh)
                    waiting.extend(fresh)
                met |= piece
                found.append(sorted(piece))
        return found

    def seen(self):
        return (self.columns, self.rows, self.wide, self.high, self.heaps(), list(self.folds),
                self.joints(), self.pieces())


def heaps(pile):
    return {(x, y): pile.heap(x, y) for y in range(pile.high) for x in range(pile.wide)}


def seen(pile):
    """All that can be asked of a pile."""
    return (pile.columns, pile.rows, pile.wide, pile.high, heaps(pile), pile.done(), joints(pile), pieces(pile))


def creases(wide, high):
    """Every fold that a pile of that size has."""
    found = []
    for side in SIDES:
        for crease in range(1, wide if side in ("west", "east") else high):
            found += [(side, True, crease), (side, False, crease)]
    return found


def fold_all(columns, rows, folds):
    pile = laid(columns, rows)
    for side, over, crease in folds:
        pile = folded(pile, side, over, crease)
    return pile


def modelled(columns, rows, folds):
    model = Model(columns, rows)
    for side, over, crease in folds:
        model.fold(side, over, crease)
    return model


def some_folds(columns, rows, seed, most=1000):
    """A row of folds, the same one for the same seed: until one place is left or there are so many."""
    draw = random.Random(f"{columns} {rows} {seed}")
    model = Model(columns, rows)
    while len(model.folds) < most and (model.wide, model.high) != (1, 1):
        model.fold(*draw.choice(creases(model.wide, model.high)))
    return model.folds


def slow_folds(columns, rows):
    """As many folds as the sheet can bear: one place is lost with each."""
    model = Model(columns, rows)
    while (model.wide, model.high) != (1, 1):
        number = len(model.folds)
        fitting = [fold for fold in creases(model.wide, model.high) if fold[2] == 1 and fold[0] in ("west", "north")]
        fitting += [fold for fold in creases(model.wide, model.high)
                    if fold[2] == (model.wide if fold[0] == "east" else model.high) - 1 and fold[0] in ("east", "south")]
        model.fold(*fitting[number * 5 % len(fitting)])
    return model.folds


def lines(pile):
    """Every line of a pile as (level, number)."""
    return [(False, number) for number in range(pile.wide + 1)] + [(True, number) for number in range(pile.high + 1)]


def refusal(call, *arguments):
    """The class of the error that a call raises; None where it raises none."""
    try:
        call(*arguments)
    except Exception as error:
        return type(error)
    return None
