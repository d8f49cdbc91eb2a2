"""Rooms: what is one, how great it is, where a point lies, and which lines it has."""

from threewards.errors import NoRoom
from threewards.plane import lies_on, meet, passes_right_of, turn

FEWEST_CORNERS = 3
MOST_CORNERS = 12
FARTHEST = 100
ORIGIN = (0, 0)


def is_room(room):
    if not FEWEST_CORNERS <= len(room) <= MOST_CORNERS:
        return False
    if len(set(room)) != len(room):
        return False
    # The area is above nought just where the inside is at the left, once the walls are known to keep apart.
    return all_near(room) and all_bend(room) and walls_keep_apart(room) and doubled_area(room) > 0


def area(room):
    check_room(room)
    return doubled_area(room)


def place(room, point):
    check_room(room)
    return place_within(walls_of(room), point)


def is_line(room, one, other):
    check_room(room)
    return has_line(room, one, other)


def has_line(room, one, other):
    if not 0 <= one < other < len(room) or are_neighbours(len(room), one, other):
        return False
    way = (room[one], room[other])
    # A wall that begins at an end of the way can't meet it elsewhere, but where the wall's other end
    # lies on the way; the wall behind that end, which is far, meets the way then too.
    far_walls = [wall for wall in walls_of(room) if way[0] not in wall and way[1] not in wall]
    if any([meet(way, wall) for wall in far_walls]):
        return False
    return middle_is_inside(room, way)


def check_room(room):
    if not is_room(room):
        raise NoRoom("the list of corners is no room")


def all_near(corners):
    return all([abs(corner[0]) <= FARTHEST and abs(corner[1]) <= FARTHEST for corner in corners])


def all_bend(corners):
    # Numbers below nought reach round to the end of the list, so the last and the first corners are asked too.
    return all([turn(corners[k - 2], corners[k - 1], corners[k]) != 0 for k in range(len(corners))])


def are_neighbours(count, one, other):
    return (other - one) % count in (1, count - 1)


def walls_of(corners):
    return [(corners[k], corners[(k + 1) % len(corners)]) for k in range(len(corners))]


def walls_keep_apart(corners):
    # Walls with a common corner have nothing else in common, since every corner bends.
    walls = walls_of(corners)
    for k in range(len(walls)):
        for m in range(k + 1, len(walls)):
            if not are_neighbours(len(walls), k, m) and meet(walls[k], walls[m]):
                return False
    return True


def doubled_area(corners):
    return sum([turn(ORIGIN, wall[0], wall[1]) for wall in walls_of(corners)])


def place_within(walls, point):
    if any([lies_on(point, wall) for wall in walls]):
        return "on"
    passed = [wall for wall in walls if passes_right_of(wall, point)]
    return "in" if len(passed) % 2 == 1 else "out"


def middle_is_inside(corners, way):
    # The middle may lie between whole numbers; with everything doubled it does not.
    doubled = [(2 * corner[0], 2 * corner[1]) for corner in corners]
    middle = (way[0][0] + way[1][0], way[0][1] + way[1][1])
    return place_within(walls_of(doubled), middle) == "in"
