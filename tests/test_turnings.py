"""Cuts turned at a line, and ways from cut to cut."""

import itertools
import unittest

import reckoned
from samples import BULGING, DENTED, HUGE, ROOMS, all_rooms, begun_elsewhere, small_rooms
from threewards.cuts import cut, is_cut
from threewards.errors import NoCut, NoTurn, TooMany
from threewards.turnings import turned, way

HOOK = DENTED["hook"]


class Turned(unittest.TestCase):
    def check_refused(self, corners, lines, line):
        with self.assertRaises(NoTurn):
            turned(corners, lines, line)

    def test_turnings_found_by_hand(self):
        self.assertEqual(turned(BULGING["four"], [(0, 2)], (0, 2)), [(1, 3)])
        self.assertEqual(turned(BULGING["four"], [(1, 3)], (1, 3)), [(0, 2)])
        self.assertEqual(turned(BULGING["five"], [(0, 2), (0, 3)], (0, 2)), [(0, 3), (1, 3)])
        self.assertEqual(turned(BULGING["five"], [(0, 2), (0, 3)], (0, 3)), [(0, 2), (2, 4)])
        self.assertEqual(turned(HOOK, [(0, 2), (0, 3), (0, 4)], (0, 2)), [(0, 3), (0, 4), (1, 3)])
        self.assertEqual(turned(HOOK, [(0, 2), (0, 3), (0, 4)], (0, 4)), [(0, 2), (0, 3), (3, 5)])
        self.assertEqual(turned(BULGING["six"], [(0, 2), (0, 4), (2, 4)], (0, 4)), [(0, 2), (2, 4), (2, 5)])

    def test_other_corners_that_are_no_line(self):
        self.check_refused(HOOK, [(0, 2), (0, 3), (0, 4)], (0, 3))
        self.check_refused(HOOK, [(0, 3), (1, 3), (3, 5)], (0, 3))
        self.check_refused(DENTED["arrow"], [(1, 3)], (1, 3))
        self.check_refused(DENTED["dart"], [(0, 3), (1, 3)], (0, 3))

    def check_all_lines(self, corners):
        known = reckoned.turnings(reckoned.cuts(corners))
        for (lines, line), other in known.items():
            lines = list(lines)
            if other is None:
                self.check_refused(corners, lines, line)
                continue
            told = turned(corners, lines, line)
            self.assertIs(type(told), list)
            self.assertEqual(told, other)
            self.assertIs(is_cut(corners, told), True)
            put, = [one for one in told if one not in lines]
            self.assertEqual(turned(corners, told, put), lines)

    def test_each_line_of_all_cuts(self):
        for name, corners in ROOMS.items():
            if len(corners) <= 8 or name in DENTED:
                with self.subTest(name):
                    self.check_all_lines(corners)

    def test_rooms_begun_at_any_corner(self):
        for name in ("five", "tower", "horseshoe", "star"):
            for begun in begun_elsewhere(ROOMS[name]):
                with self.subTest(name, begun=begun):
                    self.check_all_lines(begun)

    def test_small_rooms(self):
        for room in small_rooms(4)[::2] + small_rooms(5)[::9] + small_rooms(6)[::9] + small_rooms(7)[::9]:
            self.check_all_lines(room)

    def test_there_and_back_in_rooms_of_many_corners(self):
        for corners in BULGING.values():
            lines = cut(corners)
            for line in lines:
                told = turned(corners, lines, line)
                put, = [one for one in told if one not in lines]
                self.assertEqual([one for one in lines if one not in told], [line])
                self.assertTrue(reckoned.do_cross(corners, line, put))
                self.assertIs(is_cut(corners, told), True)
                self.assertEqual(turned(corners, told, put), lines)

    def test_pairs_that_are_none_of_the_cut_s_lines(self):
        for corners in ROOMS.values():
            lines = cut(corners)
            for pair in itertools.product(range(-1, len(corners) + 1), repeat=2):
                if pair not in lines:
                    self.check_refused(corners, lines, pair)
            for pair in ((HUGE, -HUGE), (0, HUGE), (-HUGE, 2)):
                self.check_refused(corners, lines, pair)

    def test_no_cut_is_refused_first(self):
        for line in ((0, 2), (0, 3), (2, 0), (HUGE, 0)):
            with self.assertRaises(NoCut):
                turned(HOOK, [(0, 2), (0, 3)], line)


class Way(unittest.TestCase):
    def check_way(self, corners, known, one, other):
        told = way(corners, one, other)
        self.assertIs(type(told), list)
        self.assertLessEqual(len(told), 60)
        now = one
        for line in told:
            self.assertIs(type(line), tuple)
            self.assertIn(line, now)
            now = known[tuple(now), line]
            self.assertIsNotNone(now)
        self.assertEqual(now, other)
        if one == other:
            self.assertEqual(told, [])

    def check_all_pairs(self, corners):
        all_cuts = reckoned.cuts(corners)
        known = reckoned.turnings(all_cuts)
        for one, other in itertools.product(all_cuts, repeat=2):
            self.check_way(corners, known, one, other)

    def test_between_all_cuts_of_rooms_of_at_most_eight_corners(self):
        for name, corners in ROOMS.items():
            if len(corners) <= 8:
                with self.subTest(name):
                    self.check_all_pairs(corners)

    def test_rooms_begun_at_any_corner(self):
        for name in ("five", "hook", "horseshoe", "tower"):
            for begun in begun_elsewhere(ROOMS[name]):
                with self.subTest(name, begun=begun):
                    self.check_all_pairs(begun)

    def test_small_rooms(self):
        for room in small_rooms(5)[::8] + small_rooms(6)[::8] + small_rooms(7)[::8]:
            self.check_all_pairs(room)

    def test_none_where_the_cuts_are_the_same(self):
        self.assertEqual(way(BULGING["three"], [], []), [])
        self.assertEqual(way(DENTED["arrow"], [(1, 3)], [(1, 3)]), [])
        for lines in reckoned.cuts(BULGING["seven"]):
            self.assertEqual(way(BULGING["seven"], lines, list(lines)), [])

    def test_one_line(self):
        self.assertEqual(way(BULGING["four"], [(0, 2)], [(1, 3)]), [(0, 2)])
        self.assertEqual(way(BULGING["four"], [(1, 3)], [(0, 2)]), [(1, 3)])
        self.assertEqual(way(HOOK, [(0, 2), (0, 3), (0, 4)], [(0, 2), (0, 3), (3, 5)]), [(0, 4)])

    def test_nine_corners_and_more_are_too_many(self):
        for name, corners in all_rooms().items():
            if len(corners) > 8:
                lines = cut(corners)
                with self.subTest(name), self.assertRaises(TooMany):
                    way(corners, lines, list(lines))
        for name in ("stairs", "comb", "shell", "cross", "snail"):
            found = reckoned.cuts(DENTED[name])
            for one, other in itertools.product(found[:3], found[-3:]):
                with self.subTest(name, one=one, other=other), self.assertRaises(TooMany):
                    way(DENTED[name], one, other)

    def test_no_cut_is_refused_first(self):
        for corners in ROOMS.values():
            lines = cut(corners)
            for wrong in (lines + [(0, 2)], lines[1:] + [(0, 1)], [(HUGE, 0)]):
                for one, other in ((wrong, lines), (lines, wrong), (wrong, wrong)):
                    with self.assertRaises(NoCut):
                        way(corners, one, other)


if __name__ == "__main__":
    unittest.main()
