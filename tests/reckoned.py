"""The same answers as the program's, found in another way, with fractions: the tests hold the two together."""

from fractions import Fraction


def walls(corners):
    return list(zip(corners, corners[1:] + corners[:1]))


def cross(one, other):
    return one[0] * other[1] - one[1] * other[0]


def less(one, other):
    return (one[0] - other[0], one[1] - other[1])


def shares(way, other):
    """Which parts of a way, as fractions of it, its points in common with the other way bound: one, two or none."""
    along, across, gap = less(way[1], way[0]), less(other[1], other[0]), less(other[0], way[0])
    slant = cross(along, across)
    if slant != 0:
        part, other_part = Fraction(cross(gap, across), slant), Fraction(cross(gap, along), slant)
        return {part} if 0 <= part <= 1 and 0 <= other_part <= 1 else set()
    if cross(gap, along) != 0:
        return set()
    axis = 0 if along[0] != 0 else 1
    ends = sorted(Fraction(end[axis] - way[0][axis], along[axis]) for end in other)
    first, last = max(ends[0], Fraction(0)), min(ends[1], Fraction(1))
    return {first, last} if first <= last else set()


def point_at(way, part):
    return tuple(way[0][axis] + part * (way[1][axis] - way[0][axis]) for axis in (0, 1))


def is_room(corners):
    if len(corners) not in range(3, 13) or any(abs(number) > 100 for corner in corners for number in corner):
        return False
    if any(one in corners[:k] for k, one in enumerate(corners)):
        return False
    sides = walls(corners)
    for k, one in enumerate(sides):
        for other in sides[:k]:
            common = {point_at(one, part) for part in shares(one, other)}
            if not common <= (set(one) & set(other)):
                return False
    around = list(zip(corners[-1:] + corners[:-1], corners, corners[1:] + corners[:1]))
    bends = [cross(less(here, before), less(after, here)) for before, here, after in around]
    # The lowest corner, of several the leftmost one, bulges: its bend tells at which side the inside is.
    lowest = min(range(len(corners)), key=lambda k: (corners[k][1], corners[k][0]))
    return 0 not in bends and bends[lowest] > 0


def place(corners, point):
    if any(shares((point, less(point, (-1, 0))), side) & {0} for side in walls(corners)):
        return "on"
    # So little a slope leads past all corners of small whole numbers and halves.
    ray = (point, (point[0] + 10 ** 9 + 7, point[1] + 1))
    return "in" if sum(len(shares(ray, side)) for side in walls(corners)) % 2 == 1 else "out"


def is_line(corners, one, other):
    count = len(corners)
    if one not in range(count) or other not in range(count) or one >= other or other - one in (1, count - 1):
        return False
    way = (corners[one], corners[other])
    stops = sorted({part for side in walls(corners) for part in shares(way, side)})
    between = [(before + after) / 2 for before, after in zip(stops, stops[1:])] + stops[1:-1]
    return all(place(corners, point_at(way, part)) == "in" for part in between)


def lines(corners):
    pairs = [(one, other) for other in range(len(corners)) for one in range(other)]
    return sorted(pair for pair in pairs if is_line(corners, *pair))


def do_cross(corners, one, other):
    """Whether a point between the corners of the one line lies between the corners of the other."""
    way, other_way = [tuple(corners[number] for number in line) for line in (one, other)]
    common = [point_at(way, part) for part in shares(way, other_way)]
    # Two bounds in common are those of a whole stretch.
    return len(common) == 2 or any(point not in way and point not in other_way for point in common)


def cuts(corners):
    """All cuts, rising: the lists of lines are grown line by line, as long as no two cross."""
    found = lines(corners)
    crossing = {(one, other) for one in found for other in found if one != other and do_cross(corners, one, other)}

    def grown(chosen, later):
        if len(chosen) == len(corners) - 3:
            return [chosen]
        return [cut for k, line in enumerate(later) if not any((line, other) in crossing for other in chosen)
                for cut in grown(chosen + [line], later[k + 1:])]

    return grown([], found)


def turnings(all_cuts):
    """For each cut and each line of it the cut that has another line in that line's place, or None."""
    by_rest = {}
    for cut in all_cuts:
        for line in cut:
            by_rest.setdefault(frozenset(cut) - {line}, []).append(cut)
    told = {}
    for cut in all_cuts:
        for line in cut:
            others = [other for other in by_rest[frozenset(cut) - {line}] if other != cut]
            told[tuple(cut), line] = others[0] if others else None
    return told
