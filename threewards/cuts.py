"""Cuts: what is one, which triangles it has, and how many of them a room has."""

from threewards.errors import NoCut, TooMany
from threewards.rooms import are_neighbours, check_room, has_line

MOST_CORNERS_FOR_ALL = 8


def cut(room):
    check_room(room)
    told = []
    # Lines that don't cross can always be filled up to a cut, so no choice made here leads astray.
    for line in lines_of(room):
        if crosses_none(line, told):
            told.append(line)
    return told


def is_cut(room, lines):
    check_room(room)
    return cuts_up(room, lines)


def triangles(room, lines):
    check_room(room)
    check_cut(room, lines)
    return triangles_of(len(room), lines)


def many(room):
    check_room(room)
    count = len(room)
    found = lines_of(room)
    ways = {}
    for span in range(1, count):
        for first in range(count - span):
            ways[(first, first + span)] = ways_between(count, found, ways, first, first + span)
    return ways[(0, count - 1)]


def cuts(room):
    check_room(room)
    check_few_corners(room)
    found = lines_of(room)
    told = [[]]
    for size in range(3, len(room)):
        told = longer_by_one(told, found)
    return told


def check_cut(room, lines):
    if not cuts_up(room, lines):
        raise NoCut("the list of lines is no cut of the room")


def check_few_corners(room):
    if len(room) > MOST_CORNERS_FOR_ALL:
        raise TooMany("the room has too many corners")


def cuts_up(room, lines):
    if len(lines) != len(room) - 3:
        return False
    if not rises(lines) or not all([has_line(room, line[0], line[1]) for line in lines]):
        return False
    return all([crosses_none(lines[k], lines[:k]) for k in range(len(lines))])


def rises(lines):
    return all([lines[k - 1] < lines[k] for k in range(1, len(lines))])


def lines_of(room):
    told = []
    for one in range(len(room)):
        told.extend([(one, other) for other in range(one + 1, len(room)) if has_line(room, one, other)])
    return told


def cross(one, other):
    # A line parts the room in two, and another line, being straight and inside, leads from the one part into
    # the other just where its corners do: so the corners' numbers tell it.
    return one[0] < other[0] < one[1] < other[1] or other[0] < one[0] < other[1] < one[1]


def crosses_none(line, lines):
    return not any([cross(line, other) for other in lines])


def are_joined(count, lines, one, other):
    return are_neighbours(count, one, other) or (min(one, other), max(one, other)) in lines


def tips_of(count, lines, side):
    # Three corners that are joined each to each are always a triangle of the cut: a line through it would cross.
    near = [corner for corner in range(count) if are_joined(count, lines, corner, side[0])]
    return [corner for corner in near if are_joined(count, lines, corner, side[1])]


def triangles_of(count, lines):
    told = []
    for one in range(count):
        for other in range(one + 1, count):
            if are_joined(count, lines, one, other):
                tips = tips_of(count, lines, (one, other))
                told.extend([(one, other, tip) for tip in tips if tip > other])
    return told


def ways_between(count, found, ways, first, last):
    # How often the part of the room from corner first to corner last can be cut: its side between these two
    # must be there, and has one triangle in that part.
    if not are_joined(count, found, first, last):
        return 0
    if last - first == 1:
        return 1
    return sum([ways[(first, tip)] * ways[(tip, last)] for tip in range(first + 1, last)])


def longer_by_one(lists, found):
    told = []
    for lines in lists:
        # Later lines alone are added: so each list rises, the lists do among themselves, and none comes twice.
        later = [line for line in found if not lines or lines[-1] < line]
        told.extend([lines + [line] for line in later if crosses_none(line, lines)])
    return told
