"""Cuts, their triangles, and how many a room has."""

import itertools
import unittest

import reckoned
from samples import BULGING, DENTED, HUGE, ROOMS, all_rooms, begun_elsewhere, small_rooms
from threewards.cuts import cut, cuts, is_cut, many, triangles
from threewards.errors import NoCut, TooMany

# How many cuts a room has that has no corner that turns to the right, by the number of its corners.
BULGING_COUNTS = {3: 1, 4: 2, 5: 5, 6: 14, 7: 42, 8: 132, 9: 429, 10: 1430, 11: 4862, 12: 16796}

HOOK_CUTS = [[(0, 2), (0, 3), (0, 4)], [(0, 2), (0, 3), (3, 5)], [(0, 3), (0, 4), (1, 3)], [(0, 3), (1, 3), (3, 5)]]


def rooms_of_at_most(count):
    return {name: corners for name, corners in ROOMS.items() if len(corners) <= count}


def rooms_of_more_than(count):
    return {name: corners for name, corners in ROOMS.items() if len(corners) > count}


def cuts_to_ask(corners):
    """All cuts of a room where they are few, else some of them."""
    return reckoned.cuts(corners) if len(corners) <= 8 or corners in DENTED.values() else [cut(corners)]


class Samples(unittest.TestCase):
    def test_there_are_bulging_and_dented_rooms_of_each_number_of_corners(self):
        self.assertEqual({len(corners) for corners in BULGING.values()}, set(range(3, 13)))
        self.assertEqual({len(corners) for corners in DENTED.values()}, set(range(4, 13)))


class Cut(unittest.TestCase):
    def check_cut(self, corners, told):
        self.assertIs(type(told), list)
        self.assertEqual(len(told), len(corners) - 3)
        for line in told:
            self.assertIs(type(line), tuple)
            self.assertEqual([type(number) for number in line], [int, int])
            self.assertTrue(reckoned.is_line(corners, *line))
        self.assertTrue(all(before < after for before, after in zip(told, told[1:])))
        for one, other in itertools.combinations(told, 2):
            self.assertFalse(reckoned.do_cross(corners, one, other))

    def test_rooms_begun_at_any_corner(self):
        for name, corners in all_rooms().items():
            with self.subTest(name):
                self.check_cut(corners, cut(corners))

    def test_small_rooms(self):
        for room in small_rooms(4)[::2] + small_rooms(5)[::2] + small_rooms(6)[::3] + small_rooms(7)[::3]:
            self.check_cut(room, cut(room))

    def test_rooms_with_one_cut_alone(self):
        self.assertEqual(cut(BULGING["three"]), [])
        self.assertEqual(cut(DENTED["arrow"]), [(1, 3)])
        self.assertEqual(cut(DENTED["dart"]), [(0, 3), (1, 3)])

    def test_what_was_told_may_be_changed(self):
        for name, corners in ROOMS.items():
            for change in (lambda told: told.append((0, 1)), lambda told: told.clear(), lambda told: told.reverse()):
                change(cut(corners))
                with self.subTest(name):
                    self.check_cut(corners, cut(corners))


class IsCut(unittest.TestCase):
    def check_none(self, corners, lines):
        if is_cut(corners, lines) is not False:
            self.fail(f"is_cut({corners}, {lines})")

    def test_cuts(self):
        for name, corners in ROOMS.items():
            for lines in cuts_to_ask(corners):
                with self.subTest(name, lines=lines):
                    self.assertIs(is_cut(corners, lines), True)

    def test_cuts_of_the_hook(self):
        for lines in HOOK_CUTS:
            self.assertIs(is_cut(DENTED["hook"], lines), True)

    def test_the_empty_list(self):
        for name, corners in all_rooms().items():
            with self.subTest(name):
                self.assertIs(is_cut(corners, []), len(corners) == 3)

    def test_a_line_left_out(self):
        for corners in ROOMS.values():
            for lines in cuts_to_ask(corners):
                for k in range(len(lines)):
                    self.check_none(corners, lines[:k] + lines[k + 1:])

    def test_a_line_too_many(self):
        for corners in ROOMS.values():
            more = reckoned.lines(corners) + [(0, 1), (1, HUGE)]
            for lines in cuts_to_ask(corners)[::3]:
                for line in more:
                    self.check_none(corners, sorted(lines + [line]))

    def test_a_line_twice(self):
        for corners in rooms_of_more_than(4).values():
            for lines in cuts_to_ask(corners):
                for gone, twice in itertools.permutations(lines, 2):
                    self.check_none(corners, sorted([line for line in lines if line != gone] + [twice]))

    def test_lines_that_cross(self):
        self.check_none(BULGING["five"], [(0, 2), (1, 3)])
        self.check_none(BULGING["five"], [(0, 3), (2, 4)])
        self.check_none(BULGING["six"], [(0, 3), (1, 4), (2, 5)])
        self.check_none(DENTED["hook"], [(0, 2), (0, 3), (1, 3)])
        self.check_none(DENTED["hook"], [(0, 2), (0, 4), (3, 5)])
        self.check_none(DENTED["star"], [(0, 3), (0, 5), (1, 3), (1, 5), (5, 7)])

    def test_lines_not_in_rising_order(self):
        for corners in rooms_of_more_than(4).values():
            for lines in cuts_to_ask(corners):
                self.check_none(corners, lines[::-1])
                self.check_none(corners, lines[1:] + lines[:1])
                self.check_none(corners, lines[:-2] + [lines[-1], lines[-2]])

    def test_a_pair_that_is_no_line(self):
        for corners in rooms_of_more_than(3).values():
            count, found = len(corners), reckoned.lines(corners)
            pairs = [pair for pair in itertools.product(range(-1, count + 2), repeat=2) if pair not in found]
            lines = cut(corners)
            for k in range(len(lines)):
                for pair in pairs:
                    self.check_none(corners, sorted(lines[:k] + [pair] + lines[k + 1:]))

    def test_a_line_turned_about(self):
        self.check_none(BULGING["four"], [(2, 0)])
        self.check_none(BULGING["five"], [(0, 2), (3, 0)])
        self.check_none(BULGING["five"], [(0, 3), (2, 0)])

    def test_numbers_that_no_corner_has(self):
        for pair in ((0, -2), (-2, 0), (-4, 2), (-4, -2), (2, 4), (4, 6), (0, 6), (0, HUGE), (-HUGE, 2),
                     (-HUGE, HUGE), (HUGE, HUGE + 2)):
            self.check_none(BULGING["four"], [pair])
        for pair in ((2, 5), (0, 5), (-2, 0), (0, -2), (2, -1), (-3, -1), (7, 9), (0, HUGE), (-HUGE, 3)):
            self.check_none(BULGING["five"], sorted([(0, 2), pair]))

    def test_a_way_that_is_no_line_by_the_walls(self):
        self.check_none(DENTED["arrow"], [(0, 2)])
        self.check_none(DENTED["hook"], [(0, 2), (0, 4), (2, 4)])
        self.check_none(DENTED["hook"], [(1, 3), (1, 5), (3, 5)])

    def test_long_lists(self):
        for corners in ROOMS.values():
            found = reckoned.lines(corners)
            self.check_none(corners, [(0, 2)] * 60)
            self.check_none(corners, [(k, k + 2) for k in range(60)])
            if len(corners) > 3 and len(found) != len(corners) - 3:
                self.check_none(corners, found)

    def test_all_lists_in_rooms_of_four_and_five_corners(self):
        for room in [BULGING["four"], DENTED["arrow"]]:
            known = reckoned.cuts(room)
            pairs = list(itertools.product(range(-2, 6), repeat=2))
            for lines in itertools.chain([()], *(itertools.product(pairs, repeat=size) for size in (1, 2))):
                self.assertIs(is_cut(room, list(lines)), list(lines) in known)
        for room in [BULGING["five"], DENTED["dart"]] + small_rooms(5)[::40]:
            known = reckoned.cuts(room)
            for lines in itertools.product(itertools.product(range(5), repeat=2), repeat=2):
                self.assertIs(is_cut(room, list(lines)), list(lines) in known)

    def test_all_rising_lists_of_lines_in_small_rooms(self):
        for room in small_rooms(6)[::6] + small_rooms(7)[::6]:
            known = reckoned.cuts(room)
            for lines in itertools.combinations(reckoned.lines(room), len(room) - 3):
                self.assertIs(is_cut(room, list(lines)), list(lines) in known)


class Triangles(unittest.TestCase):
    def test_triangles_of_the_hook(self):
        told = [triangles(DENTED["hook"], lines) for lines in HOOK_CUTS]
        self.assertEqual(told, [[(0, 1, 2), (0, 2, 3), (0, 3, 4), (0, 4, 5)],
                                [(0, 1, 2), (0, 2, 3), (0, 3, 5), (3, 4, 5)],
                                [(0, 1, 3), (0, 3, 4), (0, 4, 5), (1, 2, 3)],
                                [(0, 1, 3), (0, 3, 5), (1, 2, 3), (3, 4, 5)]])

    def test_a_triangle_of_three_lines(self):
        self.assertEqual(triangles(BULGING["six"], [(0, 2), (0, 4), (2, 4)]),
                         [(0, 1, 2), (0, 2, 4), (0, 4, 5), (2, 3, 4)])
        self.assertEqual(triangles(BULGING["six"], [(1, 3), (1, 5), (3, 5)]),
                         [(0, 1, 5), (1, 2, 3), (1, 3, 5), (3, 4, 5)])

    def test_three_corners(self):
        for begun in begun_elsewhere(BULGING["three"]):
            self.assertEqual(triangles(begun, []), [(0, 1, 2)])

    def test_form(self):
        for name, corners in all_rooms().items():
            lines = cut(corners)
            told = triangles(corners, lines)
            with self.subTest(name):
                self.assertIs(type(told), list)
                self.assertEqual(len(told), len(corners) - 2)
                self.assertTrue(all(before < after for before, after in zip(told, told[1:])))
                for triangle in told:
                    self.assertIs(type(triangle), tuple)
                    self.assertEqual([type(number) for number in triangle], [int, int, int])
                    self.assertTrue(triangle[0] < triangle[1] < triangle[2])

    def test_each_two_corners_are_neighbours_or_a_line_of_the_cut(self):
        for corners in ROOMS.values():
            last = len(corners) - 1
            walls = [(k, k + 1) for k in range(last)] + [(0, last)]
            for lines in cuts_to_ask(corners):
                sides = [pair for triangle in triangles(corners, lines) for pair in itertools.combinations(triangle, 2)]
                # Each wall is the side of one triangle, each line of two.
                self.assertEqual(sorted(sides), sorted(walls + 2 * lines))

    def test_areas_together_are_the_room_s(self):
        for corners in ROOMS.values():
            whole = sum(reckoned.cross(*wall) for wall in reckoned.walls(corners))
            for lines in cuts_to_ask(corners):
                parts = [[corners[number] for number in triangle] for triangle in triangles(corners, lines)]
                areas = [sum(reckoned.cross(*side) for side in reckoned.walls(part)) for part in parts]
                self.assertEqual(sum(areas), whole)
                self.assertGreater(min(areas), 0)

    def test_grid_points(self):
        for name, corners in ROOMS.items():
            step = 20 if "bound" in name else 1
            points = [(step * x, step * y) for x in range(-6, 13) for y in range(-6, 11)]
            for lines in cuts_to_ask(corners)[::20]:
                parts = [[corners[number] for number in triangle] for triangle in triangles(corners, lines)]
                for point in points:
                    places = [reckoned.place(part, point) for part in parts]
                    outside = reckoned.place(corners, point) == "out"
                    self.assertEqual(set(places) == {"out"}, outside, (name, lines, point))
                    self.assertLessEqual(places.count("in"), 1)

    def test_what_is_no_cut_is_refused(self):
        for lines in ([], [(0, 2)], [(0, 2), (0, 3), (1, 3)], [(0, 3), (0, 2), (0, 4)], [(0, 2), (0, 4), (2, 4)]):
            with self.subTest(lines=lines), self.assertRaises(NoCut):
                triangles(DENTED["hook"], lines)


class Many(unittest.TestCase):
    def test_rooms_without_a_corner_that_turns_to_the_right(self):
        for name, corners in BULGING.items():
            for begun in begun_elsewhere(corners):
                with self.subTest(name, begun=begun):
                    self.assertEqual(many(begun), BULGING_COUNTS[len(corners)])

    def test_dented_rooms_found_by_hand(self):
        for name, count in (("arrow", 1), ("dart", 1), ("hook", 4), ("teeth", 2)):
            with self.subTest(name):
                self.assertEqual(many(DENTED[name]), count)

    def test_dented_rooms_have_as_many_as_are_found(self):
        for name, corners in DENTED.items():
            count = len(reckoned.cuts(corners))
            for begun in begun_elsewhere(corners):
                with self.subTest(name, begun=begun):
                    self.assertEqual(many(begun), count)

    def test_as_many_as_cuts_tells(self):
        for room in small_rooms(4) + small_rooms(5) + small_rooms(6) + small_rooms(7):
            self.assertEqual(many(room), len(cuts(room)))
        for name, corners in rooms_of_at_most(8).items():
            with self.subTest(name):
                self.assertEqual(many(corners), len(cuts(corners)))

    def test_a_whole_number(self):
        for corners in ROOMS.values():
            self.assertIs(type(many(corners)), int)


class Cuts(unittest.TestCase):
    def test_cuts_found_by_hand(self):
        self.assertEqual(cuts(BULGING["three"]), [[]])
        self.assertEqual(cuts(BULGING["four"]), [[(0, 2)], [(1, 3)]])
        self.assertEqual(cuts(BULGING["five"]), [[(0, 2), (0, 3)], [(0, 2), (2, 4)], [(0, 3), (1, 3)],
                                                 [(1, 3), (1, 4)], [(1, 4), (2, 4)]])
        self.assertEqual(cuts(DENTED["arrow"]), [[(1, 3)]])
        self.assertEqual(cuts(DENTED["hook"]), HOOK_CUTS)

    def test_numbers_of_cuts_of_bulging_rooms(self):
        for corners in BULGING.values():
            if len(corners) <= 8:
                self.assertEqual(len(cuts(corners)), BULGING_COUNTS[len(corners)])

    def test_all_cuts_rising_and_none_twice(self):
        for name, corners in all_rooms().items():
            if len(corners) <= 8:
                told = cuts(corners)
                with self.subTest(name):
                    self.assertEqual(told, reckoned.cuts(corners))
                    self.assertTrue(all(before < after for before, after in zip(told, told[1:])))
                    self.assertTrue(all(is_cut(corners, lines) for lines in told))
                    self.assertIn(cut(corners), told)

    def test_all_cuts_of_small_rooms(self):
        for room in small_rooms(4)[::2] + small_rooms(5)[::3] + small_rooms(6)[::4] + small_rooms(7)[::4]:
            self.assertEqual(cuts(room), reckoned.cuts(room))

    def test_kinds(self):
        for corners in rooms_of_at_most(8).values():
            told = cuts(corners)
            self.assertIs(type(told), list)
            for lines in told:
                self.assertIs(type(lines), list)
                self.assertTrue(all(type(line) is tuple for line in lines))

    def test_nine_corners_and_more_are_too_many(self):
        for name, corners in all_rooms().items():
            if len(corners) > 8:
                with self.subTest(name), self.assertRaises(TooMany):
                    cuts(corners)

    def test_no_two_lists_are_one(self):
        for corners in rooms_of_at_most(8).values():
            told = [cuts(corners), cuts(corners)]
            lists = told + told[0] + told[1]
            self.assertEqual(len({id(one) for one in lists}), len(lists))

    def test_what_was_told_may_be_changed(self):
        for corners in rooms_of_at_most(8).values():
            known = reckoned.cuts(corners)
            told = cuts(corners)
            told[0].append((0, 1))
            self.assertEqual(told[1:], known[1:])
            self.assertEqual(cuts(corners), known)
            told.append([])
            self.assertEqual(cuts(corners), known)
            told.clear()
            self.assertEqual(cuts(corners), known)


if __name__ == "__main__":
    unittest.main()
