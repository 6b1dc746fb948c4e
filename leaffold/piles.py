"""Sheets laid as piles, and piles folded and unfolded."""

from leaffold.errors import NoFold, NoPlace, NoSheet, Severed

MOST_CELLS = 64
UPRIGHT_SIDES = ("west", "east")
LEVEL_SIDES = ("north", "south")
# Columns and rows are counted from these sides.
NEAR_SIDES = ("west", "north")


# The table, a list of rows of heaps, and the tuples of folds and of severed
# joints are never changed once a pile is made, so that piles may share them.
class Pile:
    def __init__(self, columns, rows, table, folds, severed):
        self.columns = columns
        self.rows = rows
        self.wide = len(table[0])
        self.high = len(table)
        self.table = table
        self.folds = folds
        self.severed = severed

    def heap(self, x, y):
        # Python would count a number below nought from the far end.
        if x < 0 or x >= self.wide or y < 0 or y >= self.high:
            raise NoPlace("the pile has no such place")
        return list(self.table[y][x])

    def done(self):
        return list(self.folds)


def laid(columns, rows):
    # Each number is looked at by itself: two below nought have a good product.
    if columns < 1 or rows < 1 or columns * rows > MOST_CELLS:
        raise NoSheet("a sheet has one column and one row or more, and at most 64 cells")
    table = [laid_row(columns, y) for y in range(rows)]
    return Pile(columns, rows, table, (), ())


def laid_row(columns, y):
    return [[(y * columns + x, False, False)] for x in range(columns)]


def folded(pile, side, over, crease):
    refuse_severed(pile)
    if not has_crease(pile, side, crease):
        raise NoFold("the pile has no such side or crease")
    table = folded_table(pile.table, side, over, crease)
    folds = pile.folds + ((side, over, crease),)
    return Pile(pile.columns, pile.rows, table, folds, pile.severed)


def undone(pile):
    refuse_severed(pile)
    if not pile.folds:
        raise NoFold("the pile has no fold to undo")
    # Folding the sheet anew spares each pile from keeping the ones ahead of it.
    earlier = laid(pile.columns, pile.rows)
    for side, over, crease in pile.folds[:-1]:
        earlier = folded(earlier, side, over, crease)
    return earlier


def refuse_severed(pile):
    if pile.severed:
        raise Severed("the pile has a cut joint")


def has_crease(pile, side, crease):
    if side in UPRIGHT_SIDES:
        return 1 <= crease < pile.wide
    if side in LEVEL_SIDES:
        return 1 <= crease < pile.high
    return False


def folded_table(table, side, over, crease):
    if side in UPRIGHT_SIDES:
        return [folded_strip(row, side, over, crease) for row in table]
    strips = [folded_strip(column, side, over, crease) for column in transposed(table)]
    return transposed(strips)


def transposed(table):
    return [column_of(table, x) for x in range(len(table[0]))]


def column_of(table, x):
    return [row[x] for row in table]


def folded_strip(strip, side, over, crease):
    # Both parts are told from the crease outward, so that heaps that meet
    # stand at the same index.
    before = list(reversed(strip[:crease]))
    behind = strip[crease:]
    if side in NEAR_SIDES:
        return laid_together(turned_part(before, side), behind, over)
    outward = laid_together(turned_part(behind, side), before, over)
    # Here the crease is the far edge, and places are counted from the near one.
    return list(reversed(outward))


def turned_part(part, side):
    return [turned_heap(heap, side) for heap in part]


def turned_heap(heap, side):
    if side in UPRIGHT_SIDES:
        return [(cell, not east, north) for cell, east, north in reversed(heap)]
    return [(cell, east, not north) for cell, east, north in reversed(heap)]


def laid_together(moving, staying, over):
    upper = moving if over else staying
    lower = staying if over else moving
    longer = max(len(upper), len(lower))
    return [heap_at(upper, k) + heap_at(lower, k) for k in range(longer)]


def heap_at(part, k):
    # The shorter part has nothing to lay down beyond its end.
    return part[k] if k < len(part) else []
