"""Rooms, areas, places of points and lines."""

import itertools
import unittest

import reckoned
from samples import (AREAS, BULGING, DENTED, HUGE, NO_ROOMS, ROOMS, SMALL_GRID, TOO_FEW, TOO_MANY, all_no_rooms,
                     all_rooms, begun_elsewhere, small_rooms)
from threewards.errors import NoRoom
from threewards.rooms import area, is_line, is_room, place


def lines_of(room):
    return [(one, other) for one in range(-2, len(room) + 2) for other in range(-2, len(room) + 2)
            if is_line(room, one, other)]


class IsRoom(unittest.TestCase):
    def test_rooms_begun_at_any_corner(self):
        for name, corners in all_rooms().items():
            with self.subTest(name):
                self.assertIs(is_room(corners), True)

    def test_lists_that_are_none(self):
        for name, corners in all_no_rooms().items():
            with self.subTest(name):
                self.assertIs(is_room(corners), False)

    def test_three_and_twelve_corners_are_enough_and_not_too_many(self):
        for corners, count in ((BULGING["three"], 3), (BULGING["twelve"], 12), (DENTED["cross"], 12)):
            self.assertEqual(len(corners), count)
            self.assertIs(is_room(corners), True)

    def check_all(self, lists):
        for corners in map(list, lists):
            if is_room(corners) is not reckoned.is_room(corners):
                self.fail(f"is_room({corners})")

    def test_every_list_of_three_or_four_points_of_a_small_grid(self):
        self.check_all(itertools.product(SMALL_GRID, repeat=3))
        self.check_all(itertools.product(SMALL_GRID, repeat=4))

    def test_every_list_of_five_points_of_a_small_grid_none_twice(self):
        self.check_all(itertools.permutations(SMALL_GRID, 5))


class Area(unittest.TestCase):
    def test_areas_found_by_hand(self):
        self.assertEqual(sorted(AREAS), sorted(ROOMS))
        for name, corners in ROOMS.items():
            for begun in begun_elsewhere(corners):
                with self.subTest(name, begun=begun):
                    self.assertEqual(area(begun), AREAS[name])

    def test_an_area_is_a_whole_number_above_nought(self):
        for room in small_rooms(4) + small_rooms(5):
            told = area(room)
            self.assertIs(type(told), int)
            self.assertGreater(told, 0)

    def test_an_odd_area_is_told_whole(self):
        self.assertEqual(area([(0, 0), (1, 0), (0, 1)]), 1)
        self.assertEqual(area([(-3, -2), (4, -1), (1, 2)]), 24)
        self.assertEqual(area([(0, 0), (3, 1), (1, 2)]), 5)

    def test_a_room_moved_keeps_its_area(self):
        for name, corners in DENTED.items():
            moved = [(x - 71, y + 83) for x, y in corners]
            with self.subTest(name):
                self.assertEqual(area(moved), AREAS[name])

    def test_area_and_places_of_grid_points_fit_together(self):
        # Pick's rule: twice the area is twice the points inside and the points on walls, less two.
        for name, corners in ROOMS.items():
            if "bound" in name:
                continue
            told = [place(corners, (x, y)) for x in range(-12, 13) for y in range(-12, 13)]
            with self.subTest(name):
                self.assertEqual(area(corners), 2 * told.count("in") + told.count("on") - 2)


class Place(unittest.TestCase):
    def check_picture(self, room, picture):
        """The rows of a picture run from y = 5 down to y = -1, its signs from x = -1 on."""
        texts = {"#": "on", "o": "in", ".": "out"}
        for begun in begun_elsewhere(room):
            for row, signs in enumerate(picture):
                for column, sign in enumerate(signs):
                    point = (column - 1, 5 - row)
                    with self.subTest(begun=begun, point=point):
                        self.assertEqual(place(begun, point), texts[sign])

    def test_hook(self):
        self.check_picture(DENTED["hook"], [".......",
                                            ".###...",
                                            ".#o#...",
                                            ".#o###.",
                                            ".#ooo#.",
                                            ".#####.",
                                            "......."])

    def test_horseshoe(self):
        self.check_picture(DENTED["horseshoe"], [".........",
                                                 ".###.###.",
                                                 ".#o#.#o#.",
                                                 ".#o###o#.",
                                                 ".#ooooo#.",
                                                 ".#######.",
                                                 "........."])

    def test_teeth(self):
        self.check_picture(DENTED["teeth"], ["...........",
                                             ".#...#...#.",
                                             ".#...o...#.",
                                             ".#o.ooo.o#.",
                                             ".#o#ooo#o#.",
                                             ".#########.",
                                             "..........."])

    def test_arrow(self):
        self.check_picture(DENTED["arrow"], [".......",
                                             ".#.....",
                                             "..o#...",
                                             "..#oo#.",
                                             "..o#...",
                                             ".#.....",
                                             "......."])

    def test_each_corner_is_on(self):
        for name, corners in all_rooms().items():
            for corner in corners:
                with self.subTest(name, corner=corner):
                    self.assertEqual(place(corners, corner), "on")

    def test_amid_walls(self):
        self.assertEqual(place(BULGING["four at the bound"], (100, 37)), "on")
        self.assertEqual(place(BULGING["four at the bound"], (-12, -100)), "on")
        self.assertEqual(place(BULGING["three at the bound"], (50, 0)), "on")
        self.assertEqual(place(BULGING["three at the bound"], (-50, 0)), "on")
        self.assertEqual(place([(0, 0), (9, 3), (0, 9)], (6, 2)), "on")
        self.assertEqual(place([(0, 0), (9, 3), (0, 9)], (3, 7)), "on")

    def test_beside_walls(self):
        self.assertEqual(place([(0, 0), (9, 3), (0, 9)], (5, 2)), "in")
        self.assertEqual(place([(0, 0), (9, 3), (0, 9)], (5, 1)), "out")
        self.assertEqual(place(BULGING["four at the bound"], (99, 99)), "in")
        self.assertEqual(place(BULGING["four at the bound"], (101, 99)), "out")

    def test_outside_on_the_straight_line_of_a_wall(self):
        self.assertEqual(place(BULGING["four"], (5, 0)), "out")
        self.assertEqual(place(BULGING["four"], (-1, 4)), "out")
        self.assertEqual(place(BULGING["four"], (0, 7)), "out")
        self.assertEqual(place(BULGING["four"], (4, -2)), "out")
        self.assertEqual(place([(0, 0), (9, 3), (0, 9)], (12, 4)), "out")
        self.assertEqual(place([(0, 0), (9, 3), (0, 9)], (-3, -1)), "out")

    def test_outside_level_with_corners(self):
        for y in (-9, -2, 0, 2, 9):
            for x in (-10, 10):
                with self.subTest(point=(x, y)):
                    self.assertEqual(place(DENTED["star"], (x, y)), "out")
                    self.assertEqual(place(DENTED["star"], (y, x)), "out")

    def test_inside_level_with_corners(self):
        for begun in begun_elsewhere(DENTED["star"]):
            for point in ((0, 0), (1, -2), (-1, 2), (2, 0), (-5, 0), (0, 7)):
                with self.subTest(begun=begun, point=point):
                    self.assertEqual(place(begun, point), "in")

    def test_points_very_far_away(self):
        for name, corners in ROOMS.items():
            for point in ((HUGE, 0), (-HUGE, 0), (0, HUGE), (2, -HUGE), (HUGE, HUGE), (-HUGE, 1)):
                with self.subTest(name, point=point):
                    self.assertEqual(place(corners, point), "out")

    def test_all_points_near_small_rooms(self):
        points = [(x, y) for x in range(-1, 4) for y in range(-1, 4)]
        for room in small_rooms(4) + small_rooms(5) + small_rooms(6):
            for point in points:
                if place(room, point) != reckoned.place(room, point):
                    self.fail(f"place({room}, {point})")

    def test_all_points_near_larger_rooms(self):
        for corners in ROOMS.values():
            for point in itertools.product(range(-11, 12), repeat=2):
                if place(corners, point) != reckoned.place(corners, point):
                    self.fail(f"place({corners}, {point})")


class IsLine(unittest.TestCase):
    def test_a_triangle_has_no_line(self):
        self.assertEqual(lines_of(BULGING["three"]), [])

    def test_lines_of_bulging_rooms_are_all_pairs_that_are_no_neighbours(self):
        self.assertEqual(lines_of(BULGING["four"]), [(0, 2), (1, 3)])
        self.assertEqual(lines_of(BULGING["five"]), [(0, 2), (0, 3), (1, 3), (1, 4), (2, 4)])
        for name, corners in all_rooms().items():
            last = len(corners) - 1
            pairs = [pair for pair in itertools.combinations(range(last + 1), 2)
                     if pair[1] - pair[0] > 1 and pair != (0, last)]
            if name.split(",")[0] in BULGING:
                with self.subTest(name):
                    self.assertEqual(lines_of(corners), pairs)

    def test_lines_of_dented_rooms(self):
        self.assertEqual(lines_of(DENTED["arrow"]), [(1, 3)])
        self.assertEqual(lines_of(DENTED["hook"]), [(0, 2), (0, 3), (0, 4), (1, 3), (3, 5)])
        self.assertEqual(lines_of(DENTED["star"]), [(0, 3), (0, 4), (0, 5), (1, 3), (1, 4), (1, 5), (1, 6), (1, 7),
                                                    (2, 5), (2, 6), (2, 7), (3, 5), (3, 6), (3, 7), (4, 7), (5, 7)])

    def test_true_and_false_themselves(self):
        self.assertIs(is_line(BULGING["four"], 0, 2), True)
        for one, other in ((0, 1), (2, 0), (0, 4), (-2, 2), (0, 0)):
            self.assertIs(is_line(BULGING["four"], one, other), False)
        self.assertIs(is_line(DENTED["arrow"], 0, 2), False)
        self.assertIs(is_line(DENTED["hook"], 1, 5), False)
        self.assertIs(is_line(DENTED["hook"], 1, 3), True)

    def test_the_greater_number_first(self):
        for name, corners in ROOMS.items():
            for one, other in lines_of(corners):
                with self.subTest(name, one=one, other=other):
                    self.assertIs(is_line(corners, other, one), False)

    def test_the_same_number_twice(self):
        for name, corners in ROOMS.items():
            for number in range(-1, len(corners) + 1):
                with self.subTest(name, number=number):
                    self.assertIs(is_line(corners, number, number), False)

    def test_neighbours(self):
        for name, corners in ROOMS.items():
            last = len(corners) - 1
            for one in range(last):
                with self.subTest(name, one=one):
                    self.assertIs(is_line(corners, one, one + 1), False)
            with self.subTest(name, one="the first, and the last"):
                self.assertIs(is_line(corners, 0, last), False)

    def test_numbers_that_no_corner_has(self):
        for one, other in ((-1, 1), (-4, 2), (-2, 0), (-4, -2), (0, 4), (2, 4), (1, 5), (4, 6), (0, HUGE), (-HUGE, 2),
                           (-HUGE, HUGE), (HUGE, HUGE + 2), (0, 6), (1, 7)):
            with self.subTest(one=one, other=other):
                self.assertIs(is_line(BULGING["four"], one, other), False)

    def test_a_way_that_runs_outside(self):
        self.assertFalse(is_line(DENTED["arrow"], 0, 2))
        self.assertFalse(is_line(DENTED["horseshoe"], 3, 6))
        self.assertFalse(is_line(DENTED["hook"], 2, 4))

    def test_a_way_that_crosses_walls(self):
        self.assertFalse(is_line(DENTED["horseshoe"], 2, 7))
        self.assertFalse(is_line(DENTED["star"], 0, 2))
        self.assertFalse(is_line(DENTED["teeth"], 2, 6))

    def test_a_way_that_touches_a_corner(self):
        # The way from (4, 0) to (0, 4) touches the corner (2, 2), and runs inside on both sides of it.
        self.assertFalse(is_line(DENTED["hook"], 1, 5))
        # The way from (0, 2) to (8, 2) touches the corner (4, 2) of a tooth from above and lies inside else.
        touched = [(0, 2), (4, 0), (8, 2), (8, 6), (4, 2), (0, 6)]
        self.assertFalse(is_line(touched, 0, 2))
        nearly = [(0, 2), (4, 0), (8, 2), (8, 6), (4, 3), (0, 6)]
        self.assertTrue(is_line(nearly, 0, 2))

    def test_a_way_that_goes_along_a_wall(self):
        # From (0, 2) to (6, 2), along the wall from (4, 2) to (2, 2).
        along = [(0, 2), (3, 0), (6, 2), (6, 4), (4, 2), (2, 2), (0, 4)]
        self.assertFalse(is_line(along, 0, 2))
        # From (4, 4) to (4, 0), whose first part is the wall to (4, 2).
        first_part = [(0, 0), (4, 0), (6, 4), (4, 4), (4, 2), (0, 2)]
        self.assertFalse(is_line(first_part, 1, 3))
        self.assertTrue(is_line(first_part, 1, 4))
        # The same, where the wall is the last part of the way.
        self.assertFalse(is_line([(4, 4), (4, 2), (0, 2), (0, 0), (4, 0), (6, 4)], 0, 4))

    def test_lines_of_a_room_begun_at_another_corner_are_the_same_lines(self):
        for name, corners in ROOMS.items():
            told = [{frozenset((begun[one], begun[other])) for one, other in lines_of(begun)}
                    for begun in begun_elsewhere(corners)]
            with self.subTest(name):
                self.assertTrue(all(one == told[0] for one in told))

    def test_all_pairs_in_small_and_in_larger_rooms(self):
        for room in small_rooms(4) + small_rooms(5) + small_rooms(6) + list(ROOMS.values()):
            for one, other in itertools.product(range(-1, len(room) + 1), repeat=2):
                if is_line(room, one, other) is not reckoned.is_line(room, one, other):
                    self.fail(f"is_line({room}, {one}, {other})")


class Refusals(unittest.TestCase):
    def test_area_place_and_is_line_refuse_what_is_no_room(self):
        for name, corners in all_no_rooms().items():
            with self.subTest(name):
                with self.assertRaises(NoRoom):
                    area(corners)
                with self.assertRaises(NoRoom):
                    place(corners, (1, 1))
                with self.assertRaises(NoRoom):
                    is_line(corners, 0, 2)

    def test_no_room_comes_ahead_of_all_else(self):
        for name, corners in {**TOO_FEW, **NO_ROOMS, **TOO_MANY}.items():
            for point in ((HUGE, -HUGE), (0, 0), (-1, 7)):
                with self.subTest(name, point=point), self.assertRaises(NoRoom):
                    place(corners, point)
            for one, other in ((0, 1), (1, 0), (3, 3), (-1, 2), (0, 99), (HUGE, -HUGE)):
                with self.subTest(name, one=one, other=other), self.assertRaises(NoRoom):
                    is_line(corners, one, other)

    def test_rooms_are_not_refused(self):
        for name, corners in all_rooms().items():
            with self.subTest(name):
                area(corners)
                self.assertIn(place(corners, (1, 1)), ("in", "on", "out"))
                self.assertIn(is_line(corners, 0, 2), (True, False))


class WhatIsHandedIn(unittest.TestCase):
    def ask_all(self, corners):
        answers = [is_room(corners)]
        if answers[0]:
            answers += [area(corners), place(corners, (1, 2)), is_line(corners, 1, 3)]
        return answers

    def test_it_stays_as_it_was(self):
        for name, corners in {**all_rooms(), **all_no_rooms()}.items():
            before = list(corners)
            self.ask_all(corners)
            with self.subTest(name):
                self.assertEqual(corners, before)
                self.assertTrue(all(one is other for one, other in zip(corners, before)))

    def test_it_stays_as_it_was_where_it_is_refused(self):
        for name, corners in all_no_rooms().items():
            before = list(corners)
            for ask in (lambda: area(corners), lambda: place(corners, (1, 2)), lambda: is_line(corners, 1, 3)):
                with self.assertRaises(NoRoom):
                    ask()
            with self.subTest(name):
                self.assertEqual(corners, before)

    def test_it_is_not_kept(self):
        corners = list(BULGING["four"])
        self.assertEqual(self.ask_all(corners), [True, 32, "in", True])
        corners[3] = (3, 1)
        self.assertEqual(self.ask_all(corners), [True, 8, "out", True])
        corners[3] = (4, 2)
        self.assertEqual(self.ask_all(corners), [False])
        corners[3] = (0, 4)
        self.assertEqual(self.ask_all(corners), [True, 32, "in", True])


if __name__ == "__main__":
    unittest.main()
