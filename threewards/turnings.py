"""Turnings: a cut turned at a line, and the way from one cut to another."""

from threewards.cuts import check_cut, check_few_corners, tips_of, triangles_of
from threewards.errors import NoTurn
from threewards.rooms import check_room, has_line


def turned(room, lines, line):
    check_room(room)
    check_cut(room, lines)
    if line not in lines or not can_turn(room, lines, line):
        raise NoTurn("the cut can't be turned at the line")
    return turned_at(room, lines, line)


def way(room, one, other):
    check_room(room)
    check_cut(room, one)
    check_cut(room, other)
    check_few_corners(room)
    told = []
    now = list(one)
    for ear in ears_in_turn(triangles_of(len(room), other)):
        unwanted = lines_to_turn(room, now, other, ear)
        while unwanted:
            told.append(unwanted[0])
            now = turned_at(room, now, unwanted[0])
            unwanted = lines_to_turn(room, now, other, ear)
    return told


def other_line(room, lines, line):
    tips = tips_of(len(room), lines, line)
    return (tips[0], tips[1])


def can_turn(room, lines, line):
    put = other_line(room, lines, line)
    return has_line(room, put[0], put[1])


def turned_at(room, lines, line):
    kept = [one for one in lines if one != line]
    return sorted(kept + [other_line(room, lines, line)])


def ears_in_turn(found):
    # An ear is a corner of one triangle alone; with that triangle taken away, there is a next one.
    told = []
    left = list(found)
    while left:
        ear = ear_of(left)
        told.append(ear)
        left = [triangle for triangle in left if ear not in triangle]
    return told


def ear_of(found):
    corners = []
    for triangle in found:
        corners.extend(triangle)
    return [corner for corner in corners if corners.count(corner) == 1][0]


def lines_to_turn(room, lines, wanted, ear):
    # Whatever else the cut has at the ear is in the way of the wanted cut. One of these lines can always be turned,
    # the one to the corner farthest from the way that cuts off the ear; it leaves the ear then, so they grow fewer.
    unwanted = [line for line in lines if ear in line and line not in wanted]
    return [line for line in unwanted if can_turn(room, lines, line)]
