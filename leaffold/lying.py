"""Whether paper can lie as heaps tell it: cells astray, torn joints and joints that cross."""

from leaffold.joints import neighbours


# Where a cell lies, as the lines of one kind see it, so that upright and level
# ones need no rules of their own: place and turned go across these lines, lane
# and slanted along them. The depth is counted from the heap's top.
class Spot:
    def __init__(self, place, turned, lane, slanted, depth):
        self.place = place
        self.turned = turned
        self.lane = lane
        self.slanted = slanted
        self.depth = depth

    # The line of the east (south) edge.
    def far_line(self):
        return self.place if self.turned else self.place + 1

    # The line of the west (north) edge.
    def near_line(self):
        return self.place + 1 if self.turned else self.place


# A joint, with the spots of its first and of its second cell.
class Strand:
    def __init__(self, first, second, level, here, there):
        self.first = first
        self.second = second
        self.here = here
        self.there = there
        # Only strands of the same track can cross.
        self.track = (level, here.far_line(), here.lane)

    def is_torn(self):
        if self.here.lane != self.there.lane or self.here.slanted != self.there.slanted:
            return True
        return self.here.far_line() != self.there.near_line()

    def is_bend(self):
        return self.here.place == self.there.place


# There are so many heaps as places, so that the width alone tells where each lies.
def fault(columns, rows, wide, high, heaps):
    astray = astray_cell(columns * rows, heaps)
    if astray is not None:
        return astray
    strands = all_strands(columns, rows, wide, heaps)
    torn = torn_joint(strands)
    if torn is not None:
        return torn
    return crossed_joints(strands)


def astray_cell(cells, heaps):
    times = {}
    for heap in heaps:
        for told in heap:
            times[told[0]] = times.get(told[0], 0) + 1
    for cell in range(cells):
        if times.get(cell, 0) != 1:
            return ("cell", cell)
    return None


def all_strands(columns, rows, wide, heaps):
    across_upright = {}
    across_level = {}
    for number, heap in enumerate(heaps):
        x = number % wide
        y = number // wide
        for depth, told in enumerate(heap):
            across_upright[told[0]] = Spot(x, told[1], y, told[2], depth)
            across_level[told[0]] = Spot(y, told[2], x, told[1], depth)
    found = []
    for first, second, level in neighbours(columns, rows):
        spots = across_level if level else across_upright
        found.append(Strand(first, second, level, spots[first], spots[second]))
    return found


def torn_joint(strands):
    for strand in strands:
        if strand.is_torn():
            return ("torn", strand.first, strand.second)
    return None


def crossed_joints(strands):
    for number, one in enumerate(strands):
        for other in strands[number + 1:]:
            if one.track == other.track and cross(one, other):
                return ("crossed", one.first, one.second, other.first, other.second)
    return None


def cross(one, other):
    if one.is_bend():
        return is_pierced(one, other)
    if other.is_bend():
        return is_pierced(other, one)
    return bridges_cross(one, other)


# One rule serves for bends and bridges: of a bridge only one cell can lie in the
# bend's heap, of a bend in the other heap none does.
def is_pierced(bend, strand):
    return is_within(bend, strand.here) != is_within(bend, strand.there)


def is_within(bend, spot):
    if spot.place != bend.here.place:
        return False
    least = min(bend.here.depth, bend.there.depth)
    greatest = max(bend.here.depth, bend.there.depth)
    return least < spot.depth < greatest


def bridges_cross(one, other):
    # The two may go across the line in contrary directions.
    beside_here = other.here
    beside_there = other.there
    if one.here.place != other.here.place:
        beside_here = other.there
        beside_there = other.here
    return (one.here.depth < beside_here.depth) != (one.there.depth < beside_there.depth)
