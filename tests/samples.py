"""Rooms, and lists that are none, which the tests share."""

import functools
import itertools

from threewards.rooms import is_room

HUGE = 10 ** 29 + 7

BULGING = {
    "three": [(0, 0), (5, 1), (2, 4)],
    "three at the bound": [(-100, -100), (100, -100), (0, 100)],
    "four": [(0, 0), (4, 0), (4, 4), (0, 4)],
    "four at the bound": [(-100, -100), (100, -100), (100, 100), (-100, 100)],
    "five": [(0, 0), (4, 0), (6, 3), (3, 6), (-1, 4)],
    "six": [(2, 0), (4, 0), (6, 3), (4, 6), (2, 6), (0, 3)],
    "seven": [(0, 0), (3, 1), (5, 4), (5, 5), (4, 6), (1, 5), (-1, 2)],
    "eight": [(0, 0), (1, 0), (3, 1), (5, 4), (5, 5), (4, 6), (1, 5), (-1, 2)],
    "nine": [(0, 0), (1, 0), (3, 1), (5, 4), (5, 5), (4, 6), (1, 5), (0, 4), (-1, 2)],
    "ten": [(0, 0), (1, 0), (3, 1), (5, 4), (5, 5), (4, 6), (3, 6), (1, 5), (0, 4), (-1, 2)],
    "eleven": [(0, 0), (1, 0), (3, 1), (4, 2), (5, 4), (5, 5), (4, 6), (3, 6), (1, 5), (0, 4), (-1, 2)],
    "twelve": [(0, 0), (1, 0), (3, 1), (4, 2), (5, 4), (5, 5), (4, 6), (3, 6), (1, 5), (0, 4), (-1, 2), (-1, 1)],
}

# Rooms with corners that turn to the right.
DENTED = {
    "arrow": [(0, 0), (4, 2), (0, 4), (1, 2)],
    "dart": [(0, 0), (4, 0), (4, 4), (2, 1), (0, 4)],
    "hook": [(0, 0), (4, 0), (4, 2), (2, 2), (2, 4), (0, 4)],
    "horseshoe": [(0, 0), (6, 0), (6, 4), (4, 4), (4, 2), (2, 2), (2, 4), (0, 4)],
    "teeth": [(0, 0), (8, 0), (8, 4), (6, 1), (4, 4), (2, 1), (0, 4)],
    "tower": [(0, 0), (4, 0), (3, 2), (4, 4), (3, 6), (0, 6), (1, 2)],
    "stairs": [(0, 0), (8, 0), (8, 2), (6, 2), (6, 4), (4, 4), (4, 6), (0, 6), (1, 3)],
    "comb": [(0, 0), (6, -2), (12, 0), (12, 4), (10, 1), (8, 4), (6, 1), (4, 4), (2, 1), (0, 4)],
    "shell": [(0, 0), (10, 0), (10, 10), (2, 10), (2, 4), (6, 5), (4, 6), (4, 8), (8, 8), (8, 2), (0, 2)],
    "cross": [(1, 0), (2, 0), (2, 1), (3, 1), (3, 2), (2, 2), (2, 3), (1, 3), (1, 2), (0, 2), (0, 1), (1, 1)],
    "snail": [(0, 0), (10, 0), (10, 10), (2, 10), (2, 4), (6, 4), (6, 6), (4, 6), (4, 8), (8, 8), (8, 2), (0, 2)],
    "star": [(0, -9), (2, -2), (9, 0), (2, 2), (0, 9), (-2, 2), (-9, 0), (-2, -2)],
}

ROOMS = {**BULGING, **DENTED}

# Twice the area, found by hand.
AREAS = {
    "three": 18,
    "three at the bound": 40000,
    "four": 32,
    "four at the bound": 80000,
    "five": 57,
    "six": 48,
    "seven": 43,
    "eight": 44,
    "nine": 45,
    "ten": 46,
    "eleven": 47,
    "twelve": 48,
    "arrow": 12,
    "dart": 20,
    "hook": 24,
    "horseshoe": 40,
    "teeth": 40,
    "tower": 36,
    "stairs": 66,
    "comb": 84,
    "shell": 114,
    "cross": 10,
    "snail": 120,
    "star": 144,
}

NO_ROOMS = {
    "walls that cross": [(0, 0), (4, 0), (1, 3), (3, 4)],
    "walls that cross, six corners": [(0, 0), (9, 0), (9, 3), (3, -1), (3, 5), (0, 5)],
    "walls that go round twice": [(0, 3), (-2, -3), (3, 1), (-3, 1), (2, -3)],
    "a corner amid a wall, from inside": [(0, 0), (4, 0), (4, 4), (2, 0), (0, 4)],
    "a corner amid a wall, from outside": [(0, 0), (6, 0), (6, 6), (4, 6), (2, 5), (4, 4), (4, 2), (2, 2), (2, 6),
                                           (0, 6)],
    "walls that overlap": [(0, 0), (6, 0), (6, 4), (4, 0), (2, 0), (0, 4)],
    "walls that overlap in part": [(0, 0), (4, 0), (4, 2), (6, 2), (6, 0), (2, 0), (2, 5), (0, 5)],
    "a corner twice, apart": [(0, 0), (4, 0), (2, 2), (4, 4), (0, 4), (2, 2)],
    "a corner twice, at once": [(0, 0), (0, 0), (4, 0), (4, 4)],
    "three corners on a straight line": [(0, 0), (2, 0), (4, 0), (4, 4)],
    "three corners on a slanting line": [(0, 0), (6, 2), (9, 3), (0, 9)],
    "there and back": [(0, 0), (4, 0), (4, 4), (4, 2)],
    "there and back beyond": [(0, 0), (4, 2), (4, -2), (4, 4)],
    "all corners on a straight line": [(0, 0), (1, 1), (3, 3)],
    "too far right": [(0, 0), (101, 0), (0, 5)],
    "too far left": [(-101, 0), (0, 0), (0, 5)],
    "too far up": [(0, 0), (5, 0), (0, 101)],
    "too far down": [(0, -101), (5, 0), (0, 0)],
    "far too far right": [(0, 0), (HUGE, 0), (0, 5)],
    "far too far down": [(0, -HUGE), (5, 0), (0, 0)],
}

TOO_FEW = {
    "no corner": [],
    "one corner": [(0, 0)],
    "two corners": [(0, 0), (4, 0)],
    "two corners alike": [(0, 0), (0, 0)],
}

# Each of these would be a room if more corners were allowed.
TOO_MANY = {
    "thirteen corners": [(2, 0), (3, -1), (4, 0), (4, 2), (6, 2), (6, 4), (4, 4), (4, 6), (2, 6), (2, 4), (0, 4),
                         (0, 2), (2, 2)],
    "sixty corners": [(k, k % 2) for k in range(59)] + [(29, 99)],
}


SMALL_GRID = [(x, y) for x in range(3) for y in range(3)]


@functools.cache
def small_rooms(count):
    """All rooms of so many corners on a grid of three by three."""
    return [list(corners) for corners in itertools.permutations(SMALL_GRID, count) if is_room(list(corners))]


def begun_elsewhere(corners):
    return [corners[k:] + corners[:k] for k in range(len(corners))]


def named_turns(samples):
    """The samples by name, each begun at each of its corners."""
    return {f"{name}, begun at {k}": begun
            for name, corners in samples.items()
            for k, begun in enumerate(begun_elsewhere(corners))}


def all_rooms():
    return named_turns(ROOMS)


def all_no_rooms():
    told_the_other_way = {f"{name} told the other way round": corners[::-1] for name, corners in ROOMS.items()}
    return {**TOO_FEW, **named_turns({**NO_ROOMS, **TOO_MANY, **told_the_other_way})}
