"""Shut piles read as books, planned for print, and sewn at a spine."""

from leaffold.errors import Ajar, Bolted, Loose, NoPlace
from leaffold.joints import joints, pieces
from leaffold.piles import LEVEL_SIDES

# Each line as joints tell theirs: whether it is level, and its number.
SPINE_LINES = {"west": (False, 0), "east": (False, 1), "north": (True, 0), "south": (True, 1)}


def pages(pile, spine, prints):
    refuse_unbound(pile, spine)
    return [(prints[k][0], prints[k][1] == south) for k, south in upright_pages(pile, spine)]


def plan(pile, spine):
    refuse_unbound(pile, spine)
    prints = {}
    for mark, page in enumerate(upright_pages(pile, spine)):
        prints[page[0]] = (mark, page[1])
    return [prints[k] for k in range(len(prints))]


def refuse_unbound(pile, spine):
    if pile.wide > 1 or pile.high > 1:
        raise Ajar("the pile has more places than one")
    if spine not in SPINE_LINES:
        raise NoPlace("the spine is at none of the four sides")


# For each page, in the order of reading, the number of its print in a list of
# prints, and whether that must have its head to the cell's south edge for the
# page to stand upright.
def upright_pages(pile, spine):
    found = []
    for cell, east, north in pile.heap(0, 0):
        upward = 2 * cell if east == north else 2 * cell + 1
        downward = 2 * cell + 1 if east == north else 2 * cell
        found.append((upward, north))
        # A leaf that is turned at a level spine comes to lie head for foot.
        found.append((downward, not north if spine in LEVEL_SIDES else north))
    return found


def held(pile, spine):
    refuse_unbound(pile, spine)
    threaded = threaded_cells(pile, spine)
    kept = []
    fallen = []
    for piece in pieces(pile):
        if any([cell in threaded for cell in piece]):
            kept.extend(piece)
        else:
            fallen.extend(piece)
    return (sorted(kept), sorted(fallen))


def threaded_cells(pile, spine):
    threaded = {}
    for first, second, level, number in joints(pile):
        if (level, number) == SPINE_LINES[spine]:
            threaded[first] = True
            threaded[second] = True
    return threaded


def bolts(pile, spine):
    refuse_unbound(pile, spine)
    return [joint[:2] for joint in joints(pile) if joint[2:] != SPINE_LINES[spine]]


def sewn(pile, spine, prints):
    if bolts(pile, spine):
        raise Bolted("an uncut joint lies off the spine")
    if held(pile, spine)[1]:
        raise Loose("a leaf is not held by the thread")
    return pages(pile, spine, prints)
