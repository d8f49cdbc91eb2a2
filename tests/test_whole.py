"""What is promised over the whole program: the order of refusals, what is handed in, what is told."""

import copy
import itertools
import unittest

import reckoned
from samples import BULGING, DENTED, HUGE, NO_ROOMS, ROOMS, TOO_FEW, TOO_MANY, all_no_rooms
from threewards.cuts import cut, cuts, is_cut, many, triangles
from threewards.errors import NoCut, NoPoint, NoRoom, NoTurn, TooMany
from threewards.keepers import dyes, keepers, seen
from threewards.rooms import area, is_line, is_room, place
from threewards.turnings import turned, way

HOOK = DENTED["hook"]
HOOK_CUT = [(0, 2), (0, 3), (0, 4)]
OTHER_HOOK_CUT = [(0, 3), (1, 3), (3, 5)]

LISTS_OF_LINES = [[], [(0, 2)], HOOK_CUT, [(0, 0)] * 60, [(HUGE, -HUGE)]]
PAIRS = [(0, 2), (1, 1), (0, 3), (3, 3), (-1, 99), (HUGE, -HUGE)]

ASKED_WITH_A_ROOM = [area, cut, many, cuts]
ASKED_WITH_LINES = [triangles, dyes, keepers]
ASKED_WITH_LINES_AND_A_PAIR = [seen, turned]


def lists_within(told):
    """All lists in an answer, itself among them."""
    within = [one for part in told for one in lists_within(part)] if isinstance(told, (list, tuple)) else []
    return within + [told] if isinstance(told, list) else within


def no_cuts(corners):
    """Lists of pairs that are no cut of a room, for each reason."""
    lines = cut(corners)
    told = [lines + [(0, 2)], [(0, 1)] + lines, [(HUGE, HUGE)] * 60, [(-2, 0)], lines[1:] + [(len(corners), 99)]]
    if lines:
        told += [[], lines[1:], lines[:-1], [lines[0][::-1]] + lines[1:], [lines[0]] + lines]
    if len(lines) > 1:
        told += [lines[::-1], lines[:-1] + [lines[0]], lines[:1] * len(lines)]
    crossing = [line for line in reckoned.lines(corners) if line not in lines]
    return told + [sorted(lines[1:] + [line]) for line in crossing if not is_cut(corners, sorted(lines[1:] + [line]))]


def questions(room, lines, other, point, line):
    """Each function, with what it is handed."""
    return [(is_room, [room]), (area, [room]), (place, [room, point]), (is_line, [room, line[0], line[1]]),
            (cut, [room]), (is_cut, [room, lines]), (triangles, [room, lines]), (many, [room]), (cuts, [room]),
            (dyes, [room, lines]), (keepers, [room, lines]), (seen, [room, lines, point]),
            (turned, [room, lines, line]), (way, [room, lines, other])]


def hook_questions():
    return questions(list(HOOK), list(HOOK_CUT), list(OTHER_HOOK_CUT), (1, 3), (0, 2))


class NoRoomFirst(unittest.TestCase):
    def check(self, ask, *handed):
        with self.subTest(ask=ask.__name__, handed=handed), self.assertRaises(NoRoom) as caught:
            ask(*handed)
        self.assertIs(type(caught.exception), NoRoom)

    def test_whatever_the_other_values_are(self):
        for corners in {**TOO_FEW, **NO_ROOMS, **TOO_MANY}.values():
            for ask in ASKED_WITH_A_ROOM:
                self.check(ask, corners)
            for lines in LISTS_OF_LINES:
                for ask in ASKED_WITH_LINES + [is_cut]:
                    self.check(ask, corners, lines)
                for ask, pair in itertools.product(ASKED_WITH_LINES_AND_A_PAIR, PAIRS):
                    self.check(ask, corners, lines, pair)
            for one, other in itertools.product(LISTS_OF_LINES, repeat=2):
                self.check(way, corners, one, other)

    def test_all_lists_that_are_no_rooms(self):
        for corners in all_no_rooms().values():
            lines = [(0, k) for k in range(2, len(corners) - 1)]
            for ask, handed in questions(corners, lines, list(lines), (1, 1), (0, 2))[1:]:
                self.check(ask, *handed)

    def test_rooms_whose_corners_are_told_the_other_way_round(self):
        for corners in ROOMS.values():
            lines = cut(corners)
            for ask, handed in questions(corners[::-1], lines, lines, corners[0], (0, 2))[1:]:
                self.check(ask, *handed)


class NoCutSecond(unittest.TestCase):
    def check(self, ask, *handed):
        with self.subTest(ask=ask.__name__, handed=handed), self.assertRaises(NoCut) as caught:
            ask(*handed)
        self.assertIs(type(caught.exception), NoCut)

    def test_whatever_the_other_values_are(self):
        for corners in ROOMS.values():
            right = cut(corners)
            for wrong in no_cuts(corners):
                self.assertIs(is_cut(corners, wrong), False)
                for ask in ASKED_WITH_LINES:
                    self.check(ask, corners, wrong)
                for ask, pair in itertools.product(ASKED_WITH_LINES_AND_A_PAIR, PAIRS[:2] + PAIRS[-1:]):
                    self.check(ask, corners, wrong, pair)
                for one, other in ((right, wrong), (wrong, right), (wrong, wrong)):
                    self.check(way, corners, one, other)


class LastRefusals(unittest.TestCase):
    def check(self, refusal, ask, *handed):
        with self.subTest(ask=ask.__name__, handed=handed), self.assertRaises(refusal) as caught:
            ask(*handed)
        self.assertIs(type(caught.exception), refusal)

    def test_each_is_its_own_class(self):
        for corners in ROOMS.values():
            lines = cut(corners)
            self.check(NoPoint, seen, corners, lines, (101, 0))
            self.check(NoTurn, turned, corners, lines, (0, 1))
            if len(corners) > 8:
                self.check(TooMany, cuts, corners)
                self.check(TooMany, way, corners, lines, lines)

    def test_eight_corners_are_not_too_many(self):
        for name in ("eight", "horseshoe", "star"):
            cuts(ROOMS[name])
            way(ROOMS[name], cut(ROOMS[name]), cut(ROOMS[name]))


class WhatIsHandedIn(unittest.TestCase):
    def ask_all(self, asked):
        for ask, handed in asked:
            before = copy.deepcopy(handed)
            try:
                ask(*handed)
            except (NoRoom, NoCut, NoPoint, NoTurn, TooMany):
                pass
            with self.subTest(ask=ask.__name__, handed=before):
                self.assertEqual(handed, before)

    def test_it_stays_as_it_was(self):
        for corners in ROOMS.values():
            lines = cut(corners)
            other = reckoned.cuts(corners)[-1] if corners in DENTED.values() or len(corners) <= 8 else list(lines)
            for point, line in itertools.product((corners[0], (1, 1), (HUGE, 0)), lines[:1] + lines[-1:] + [(0, 1)]):
                self.ask_all(questions(corners, lines, other, point, line))

    def test_it_stays_as_it_was_where_it_is_refused(self):
        for corners in {**TOO_FEW, **NO_ROOMS, **TOO_MANY}.values():
            self.ask_all(questions(corners, [(3, 5), (0, 2)], [(0, 2)], (1, 1), (0, 2)))
        for corners in ROOMS.values():
            for lines in no_cuts(corners):
                self.ask_all(questions(corners, lines, cut(corners), (1, 1), (0, 2)))

    def test_it_is_not_kept(self):
        known = [ask(*handed) for ask, handed in hook_questions()]
        for number in range(len(known)):
            ask, handed = hook_questions()[number]
            told = ask(*handed)
            for thing in handed:
                if isinstance(thing, list):
                    thing.clear()
            with self.subTest(ask=ask.__name__):
                self.assertEqual(told, known[number])
        self.assertEqual([ask(*handed) for ask, handed in hook_questions()], known)

    def test_a_list_changed_between_two_questions(self):
        room, lines = list(BULGING["four"]), [(0, 2)]
        self.assertEqual([many(room), dyes(room, lines), turned(room, lines, (0, 2))], [2, [0, 1, 2, 1], [(1, 3)]])
        lines[0] = (1, 3)
        self.assertEqual([many(room), dyes(room, lines), turned(room, lines, (1, 3))], [2, [0, 1, 0, 2], [(0, 2)]])
        room[3] = (1, 1)
        room[2] = (0, 4)
        self.assertEqual([many(room), cuts(room), dyes(room, lines)], [1, [[(1, 3)]], [0, 1, 0, 2]])
        room.append((-9, 1))
        with self.assertRaises(NoCut):
            dyes(room, lines)


class WhatIsTold(unittest.TestCase):
    def test_no_two_lists_are_one(self):
        for corners in ROOMS.values():
            lines = cut(corners)
            asked = questions(corners, lines, list(lines), corners[0], lines[0] if lines else (0, 2))
            for ask, handed in asked:
                try:
                    told = [ask(*handed), ask(*handed)]
                except (NoTurn, TooMany):
                    continue
                lists = [one for answer in told + handed for one in lists_within(answer)]
                with self.subTest(ask=ask.__name__, handed=handed):
                    self.assertEqual(told[0], told[1])
                    self.assertEqual(len({id(one) for one in lists}), len(lists))

    def test_it_may_be_changed(self):
        known = [ask(*handed) for ask, handed in hook_questions()]
        changes = [lambda one: one.append((0, 1)), lambda one: one.clear(), lambda one: one.reverse(),
                   lambda one: one.insert(0, [])]
        for (number, (ask, handed)), change in itertools.product(enumerate(hook_questions()), changes):
            for one in lists_within(ask(*handed)):
                change(one)
            with self.subTest(ask=ask.__name__):
                self.assertEqual(ask(*handed), known[number])
        self.assertEqual([ask(*handed) for ask, handed in hook_questions()], known)

    def test_kinds(self):
        kinds = [bool, int, str, bool, list, bool, list, int, list, list, list, tuple, list, list]
        self.assertEqual([type(ask(*handed)) for ask, handed in hook_questions()], kinds)


if __name__ == "__main__":
    unittest.main()
