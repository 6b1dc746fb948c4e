"""The joints of a pile, the lines on which they lie, knives and pieces."""

from leaffold.errors import NoPlace
from leaffold.piles import Pile


def joints(pile):
    return [joint for joint in all_joints(pile) if joint[:2] not in pile.severed]


def all_joints(pile):
    lines = edge_lines(pile)
    found = []
    for first, second, level in neighbours(pile.columns, pile.rows):
        found.append((first, second, level, lines[first][1] if level else lines[first][0]))
    return found


# The joints of a sheet in their order, wherever its cells may lie.
def neighbours(columns, rows):
    cells = columns * rows
    found = []
    for cell in range(cells):
        if cell % columns < columns - 1:
            found.append((cell, cell + 1, False))
        if cell + columns < cells:
            found.append((cell, cell + columns, True))
    return found


# For each cell the upright line of its east edge and the level line of its
# south edge: a joint lies where its first cell has that edge.
def edge_lines(pile):
    lines = {}
    for y in range(pile.high):
        for x in range(pile.wide):
            for cell, east, north in pile.heap(x, y):
                lines[cell] = (x if east else x + 1, y if north else y + 1)
    return lines


def cut(pile, level, number):
    last = pile.high if level else pile.wide
    if number < 0 or number > last:
        raise NoPlace("the pile has no such line")
    parted = [joint[:2] for joint in joints(pile) if joint[2:] == (level, number)]
    return Pile(pile.columns, pile.rows, pile.table, pile.folds, pile.severed + tuple(parted))


def pieces(pile):
    # Each cell bears the least cell of its piece, as far as it is known.
    least = list(range(pile.columns * pile.rows))
    for joint in joints(pile):
        least = hung_together(least, least[joint[0]], least[joint[1]])
    groups = {}
    for cell, head in enumerate(least):
        groups.setdefault(head, []).append(cell)
    return list(groups.values())


def hung_together(least, one, other):
    lesser = min(one, other)
    greater = max(one, other)
    return [lesser if head == greater else head for head in least]
