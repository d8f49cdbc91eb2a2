"""Points and straight ways of the plane; a way is a tuple of its two ends."""


def turn(one, other, third):
    # The sign tells the turn at the second point: above nought to the left, below to the right, nought for none.
    return (other[0] - one[0]) * (third[1] - one[1]) - (other[1] - one[1]) * (third[0] - one[0])


def lies_on(point, way):
    start = way[0]
    end = way[1]
    if turn(start, end, point) != 0:
        return False
    in_width = min(start[0], end[0]) <= point[0] <= max(start[0], end[0])
    in_height = min(start[1], end[1]) <= point[1] <= max(start[1], end[1])
    return in_width and in_height


def parts(way, other):
    # An end that lies on the straight line is on neither side of it: that case is left to lies_on.
    start_side = turn(way[0], way[1], other[0])
    end_side = turn(way[0], way[1], other[1])
    return (start_side < 0 and end_side > 0) or (start_side > 0 and end_side < 0)


def meet(way, other):
    if parts(way, other) and parts(other, way):
        return True
    touches_way = lies_on(other[0], way) or lies_on(other[1], way)
    # Both are asked for, since the one way may lie wholly within the other.
    touches_other = lies_on(way[0], other) or lies_on(way[1], other)
    return touches_way or touches_other


def passes_right_of(way, point):
    # A level end counts as below, so that two walls that meet level with the point are not counted twice.
    start_above = way[0][1] > point[1]
    end_above = way[1][1] > point[1]
    if start_above == end_above:
        return False
    side = turn(way[0], way[1], point)
    return side > 0 if end_above else side < 0
