"""Dyes, keepers, and who sees a point."""

import unittest

import reckoned
from samples import BULGING, DENTED, HUGE, ROOMS, all_rooms, begun_elsewhere, small_rooms
from threewards.cuts import cut, triangles
from threewards.errors import NoCut, NoPoint
from threewards.keepers import dyes, keepers, seen

HOOK = DENTED["hook"]


def some_cuts(corners):
    """The cut that is told, and some more where all are easily found."""
    found = reckoned.cuts(corners)[::9] if len(corners) <= 8 or corners in DENTED.values() else []
    return [cut(corners)] + found


class Dyes(unittest.TestCase):
    def test_dyes_found_by_hand(self):
        self.assertEqual(dyes(BULGING["three"], []), [0, 1, 2])
        self.assertEqual(dyes(BULGING["four"], [(0, 2)]), [0, 1, 2, 1])
        self.assertEqual(dyes(BULGING["four"], [(1, 3)]), [0, 1, 0, 2])
        self.assertEqual(dyes(HOOK, [(0, 2), (0, 3), (0, 4)]), [0, 1, 2, 1, 2, 1])
        self.assertEqual(dyes(HOOK, [(0, 3), (1, 3), (3, 5)]), [0, 1, 0, 2, 0, 1])
        self.assertEqual(dyes(HOOK, [(0, 2), (0, 3), (3, 5)]), [0, 1, 2, 1, 0, 2])
        self.assertEqual(dyes(BULGING["six"], [(1, 3), (1, 5), (3, 5)]), [0, 1, 2, 0, 1, 2])

    def check_dyes(self, corners, lines):
        told = dyes(corners, lines)
        self.assertIs(type(told), list)
        self.assertEqual(len(told), len(corners))
        self.assertTrue(all(type(dye) is int for dye in told))
        self.assertEqual(told[:2], [0, 1])
        for triangle in triangles(corners, lines):
            self.assertEqual(sorted(told[number] for number in triangle), [0, 1, 2])

    def test_each_triangle_has_all_three(self):
        for corners in all_rooms().values():
            self.check_dyes(corners, cut(corners))
        for corners in ROOMS.values():
            for lines in some_cuts(corners):
                self.check_dyes(corners, lines)
        for room in small_rooms(5) + small_rooms(6) + small_rooms(7):
            self.check_dyes(room, cut(room))


class Keepers(unittest.TestCase):
    def test_keepers_found_by_hand(self):
        self.assertEqual(keepers(BULGING["four"], [(0, 2)]), [0])
        self.assertEqual(keepers(BULGING["four"], [(1, 3)]), [1])
        self.assertEqual(keepers(HOOK, [(0, 2), (0, 3), (0, 4)]), [0])
        self.assertEqual(keepers(HOOK, [(0, 3), (1, 3), (3, 5)]), [3])

    def test_of_several_rarest_dyes_the_least(self):
        self.assertEqual(keepers(BULGING["three"], []), [0])
        self.assertEqual(keepers(HOOK, [(0, 2), (0, 3), (3, 5)]), [0, 4])
        self.assertEqual(keepers(BULGING["six"], [(1, 3), (1, 5), (3, 5)]), [0, 3])
        # Here the dye 0 has three corners, the dyes 1 and 2 have two each.
        room, lines = BULGING["seven"], [(0, 3), (1, 3), (3, 5), (3, 6)]
        self.assertEqual(dyes(room, lines), [0, 1, 0, 2, 1, 0, 1])
        self.assertEqual(keepers(room, lines), [3])
        room, lines = BULGING["seven"], [(1, 3), (1, 6), (3, 6), (4, 6)]
        self.assertEqual(dyes(room, lines), [0, 1, 2, 0, 1, 0, 2])
        self.assertEqual(keepers(room, lines), [1, 4])

    def check_keepers(self, corners, lines):
        told = keepers(corners, lines)
        dyed = dyes(corners, lines)
        counts = [(dyed.count(dye), dye) for dye in (0, 1, 2)]
        self.assertIs(type(told), list)
        self.assertEqual(told, [number for number, dye in enumerate(dyed) if dye == min(counts)[1]])
        self.assertLessEqual(len(told), len(corners) // 3)
        for triangle in triangles(corners, lines):
            self.assertEqual(len(set(triangle) & set(told)), 1)

    def test_the_corners_of_the_rarest_dye(self):
        for corners in all_rooms().values():
            self.check_keepers(corners, cut(corners))
        for corners in ROOMS.values():
            for lines in some_cuts(corners):
                self.check_keepers(corners, lines)
        for room in small_rooms(5) + small_rooms(6) + small_rooms(7):
            self.check_keepers(room, cut(room))


class Seen(unittest.TestCase):
    def check_seen(self, corners, lines, point):
        told = seen(corners, lines, point)
        self.assertIs(type(told), tuple)
        triangle, keeper = told
        self.assertIs(type(triangle), tuple)
        self.assertIs(type(keeper), int)
        self.assertIn(triangle, triangles(corners, lines))
        self.assertIn(reckoned.place([corners[number] for number in triangle], point), ("in", "on"))
        self.assertIn(keeper, triangle)
        self.assertIn(keeper, keepers(corners, lines))

    def check_refused(self, corners, lines, point):
        with self.assertRaises(NoPoint):
            seen(corners, lines, point)

    def test_points_found_by_hand(self):
        lines = [(0, 3), (1, 3), (3, 5)]
        self.assertEqual(seen(HOOK, lines, (2, 3)), ((3, 4, 5), 3))
        self.assertEqual(seen(HOOK, lines, (3, 2)), ((1, 2, 3), 3))
        self.assertEqual(seen(HOOK, lines, (4, 2)), ((1, 2, 3), 3))
        self.assertEqual(seen(HOOK, lines, (2, 1)), ((0, 1, 3), 3))
        self.assertEqual(seen(HOOK, lines, (1, 2)), ((0, 3, 5), 3))
        self.assertEqual(seen(HOOK, [(0, 2), (0, 3), (3, 5)], (1, 4)), ((3, 4, 5), 4))
        self.assertEqual(seen(HOOK, [(0, 2), (0, 3), (3, 5)], (3, 1)), ((0, 1, 2), 0))

    def test_all_points_near_rooms(self):
        for name, corners in ROOMS.items():
            step = 20 if "bound" in name else 1
            points = [(step * x, step * y) for x in range(-6, 13) for y in range(-6, 11)]
            asked = some_cuts(corners)[-2:]
            for point in points:
                outside = reckoned.place(corners, point) == "out"
                for lines in asked:
                    if outside:
                        self.check_refused(corners, lines, point)
                    else:
                        self.check_seen(corners, lines, point)

    def test_corners(self):
        for corners in all_rooms().values():
            lines = cut(corners)
            for corner in corners:
                self.check_seen(corners, lines, corner)

    def test_points_amid_walls_and_on_lines(self):
        for corners in ROOMS.values():
            doubled = [(2 * x, 2 * y) for x, y in corners]
            if max(max(map(abs, corner)) for corner in doubled) > 100:
                continue
            for lines in some_cuts(doubled):
                ways = reckoned.walls(doubled) + [(doubled[one], doubled[other]) for one, other in lines]
                for start, end in ways:
                    self.check_seen(doubled, lines, ((start[0] + end[0]) // 2, (start[1] + end[1]) // 2))

    def test_points_outside(self):
        for point in ((3, 3), (4, 4), (-1, 0), (5, 0), (2, 5), (2, -1), (0, 5)):
            for lines in reckoned.cuts(HOOK):
                self.check_refused(HOOK, lines, point)

    def test_points_very_far_away(self):
        for corners in ROOMS.values():
            lines = cut(corners)
            for point in ((HUGE, 0), (-HUGE, 0), (0, HUGE), (2, -HUGE), (HUGE, HUGE), (-HUGE, 1)):
                self.check_refused(corners, lines, point)

    def test_a_point_outside_on_the_straight_line_of_a_line(self):
        for begun in begun_elsewhere(BULGING["four"]):
            self.check_refused(begun, [(0, 2)], (5, 5))
            self.check_refused(begun, [(0, 2)], (-1, 5))

    def test_no_cut_is_refused_first(self):
        for point in ((1, 1), (3, 3), (HUGE, 0)):
            with self.assertRaises(NoCut):
                seen(HOOK, [(0, 2), (0, 3)], point)


if __name__ == "__main__":
    unittest.main()
