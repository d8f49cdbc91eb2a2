"""Dyes and keepers: the corners dyed by three, and who stands at them and sees a point."""

from threewards.cuts import check_cut, triangles_of
from threewards.errors import NoPoint
from threewards.rooms import check_room, place_within, walls_of

ALL_DYES = (0, 1, 2)


def dyes(room, lines):
    check_room(room)
    check_cut(room, lines)
    return dyes_of(len(room), triangles_of(len(room), lines))


def keepers(room, lines):
    check_room(room)
    check_cut(room, lines)
    return keepers_of(dyes_of(len(room), triangles_of(len(room), lines)))


def seen(room, lines, point):
    check_room(room)
    check_cut(room, lines)
    found = triangles_of(len(room), lines)
    standing = keepers_of(dyes_of(len(room), found))
    for triangle in found:
        if reaches(room, triangle, point):
            return (triangle, keeper_of(triangle, standing))
    # The triangles cover the whole room, so what is in none of them is outside.
    raise NoPoint("the point lies outside of the room")


def dyes_of(count, found):
    told = {0: 0, 1: 1}
    while len(told) < count:
        for triangle in found:
            bare = [corner for corner in triangle if corner not in told]
            if len(bare) == 1:
                used = [told[corner] for corner in triangle if corner in told]
                told[bare[0]] = sum(ALL_DYES) - sum(used)
    return [told[corner] for corner in range(count)]


def keepers_of(dyed):
    counts = [dyed.count(dye) for dye in ALL_DYES]
    # The first place of the least count is the least dye of several that are as rare.
    rarest = counts.index(min(counts))
    return [corner for corner in range(len(dyed)) if dyed[corner] == rarest]


def keeper_of(triangle, standing):
    return [corner for corner in triangle if corner in standing][0]


def reaches(room, triangle, point):
    return place_within(walls_of([room[corner] for corner in triangle]), point) != "out"
