"""Promises 8.1, 8.2, 0.2 (g), and 0.3 as far as it speaks of rooms."""

import itertools
import unittest

from daysheet.columns import columns, is_laid
from daysheet.errors import TooMany
from daysheet.loads import most_at_once
from daysheet.rooms import fitting_plan, room_changes, room_plan, rooms_needed
from daysheet.sheets import overlap, partners

SHEET = (("a", 0, 10), ("bb", 5, 15), ("c", 10, 20), ("d", 30, 480))
TOUCHING = (("a", 0, 5), ("b", 5, 10), ("c", 10, 15))
ALIKE = (("a", 3, 9), ("b", 3, 9), ("c", 3, 9))
# a and b need a room each, and c, for which only the greater one will do, begins while b still goes on.
LEFT_TO_LATER = (("a", 0, 5), ("b", 1, 10), ("c", 6, 8))
# Never more go on at once than there are rooms for them, and still there is no plan for a great and a small room:
# c keeps a out of the great one, d keeps b out of it, and a and b overlap.
NO_PLAN = (("a", 0, 5), ("b", 4, 10), ("c", 0, 2), ("d", 8, 10))
SHORT_TIMES = [(begin, end) for begin in range(5) for end in range(begin + 1, 6)]


def short_sheets():
    for many in range(4):
        for times in itertools.product(SHORT_TIMES, repeat=many):
            yield tuple([(name,) + time for name, time in zip("abc", times)])


def numbers(start):
    # By a fixed rule, so that each run looks at the same ones.
    number = start
    while True:
        number = (number * 1103515245 + 12345) % 2147483648
        yield number // 65536


def long_sheets(least, most, turns):
    source = numbers(5)
    for many in range(least, most + 1):
        for spread in (5, 12, 30) * turns:
            sheet = []
            for letter in "abcdefghijklmnop"[:many]:
                begin = next(source) % spread
                sheet.append((letter, begin, begin + 1 + next(source) % 9))
            yield tuple(sheet)


def is_fitting(sheet, sizes, heads, plan):
    if sorted(plan) != [meeting[0] for meeting in sheet]:
        return False
    if not all(room in range(len(sizes)) and sizes[room] >= heads[name] for name, room in plan.items()):
        return False
    pairs = itertools.combinations(sheet, 2)
    return not any(overlap(one, other) and plan[one[0]] == plan[other[0]] for one, other in pairs)


def has_plan(sheet, sizes, heads):
    # All ways, meeting by meeting; a way ends where two that overlap would be in one room.
    ways = [{}]
    for name, begin, end in sheet:
        beside = partners(sheet, name)
        longer = []
        for way, room in itertools.product(ways, range(len(sizes))):
            if sizes[room] >= heads[name] and room not in [way.get(other) for other in beside]:
                longer.append(dict(way, **{name: room}))
        ways = longer
    return bool(ways)


class RoomPlanTest(unittest.TestCase):
    def test_rooms_needed(self):
        self.assertEqual(rooms_needed(()), 0)
        self.assertEqual(rooms_needed(TOUCHING), 1)
        self.assertEqual(rooms_needed(SHEET), 2)
        self.assertEqual(rooms_needed(ALIKE), 3)
        self.assertEqual(rooms_needed((("b", 8, 9), ("b", 8, 9))), 2)
        for sheet in itertools.chain(short_sheets(), long_sheets(4, 16, 1)):
            loads = [sum(begin <= moment < end for name, begin, end in sheet) for moment in range(40)]
            self.assertEqual(rooms_needed(sheet), max(loads))

    def test_ordinary_plans(self):
        self.assertEqual(room_plan(SHEET, 2), {"a": 0, "bb": 1, "c": 0, "d": 0})
        self.assertEqual(room_plan(TOUCHING, 1), {"a": 0, "b": 0, "c": 0})
        self.assertEqual(room_plan(ALIKE, 3), {"a": 0, "b": 1, "c": 2})
        self.assertEqual(room_plan((("a", 0, 5), ("b", 0, 7), ("c", 0, 6)), 3), {"a": 2, "b": 0, "c": 1})

    def test_more_rooms_than_are_needed_change_nothing(self):
        for many in (3, 4, 99):
            self.assertEqual(room_plan(SHEET, many), {"a": 0, "bb": 1, "c": 0, "d": 0})

    def test_no_meetings_need_no_rooms(self):
        for many in (0, 1, 5):
            self.assertEqual(room_plan((), many), {})

    def test_one_room_fewer_than_are_needed(self):
        for sheet, needed in ((SHEET, 2), (TOUCHING, 1), (ALIKE, 3)):
            for many in range(needed):
                with self.subTest(sheet=sheet, many=many), self.assertRaises(TooMany):
                    room_plan(sheet, many)

    def test_many_sheets(self):
        for sheet in itertools.chain(short_sheets(), long_sheets(4, 16, 2)):
            needed = most_at_once(sheet)
            with self.subTest(sheet=sheet):
                wanted = {}
                for name, begin, end in sorted(sheet, key=lambda part: (part[1], -part[2], part[0])):
                    taken = [wanted.get(other) for other in partners(sheet, name)]
                    wanted[name] = min(room for room in range(needed) if room not in taken)
                self.assertEqual(room_plan(sheet, needed), wanted)
                self.assertIs(is_laid(sheet, wanted), True)
                if needed:
                    self.assertRaises(TooMany, room_plan, sheet, needed - 1)

    def test_there_is_no_plan_for_fewer(self):
        for sheet in list(short_sheets())[::7] + list(long_sheets(4, 6, 1)):
            heads = dict([(meeting[0], 1) for meeting in sheet])
            with self.subTest(sheet=sheet):
                self.assertTrue(has_plan(sheet, [1] * most_at_once(sheet), heads))
                if sheet:
                    self.assertFalse(has_plan(sheet, [1] * (most_at_once(sheet) - 1), heads))


class RoomChangesTest(unittest.TestCase):
    def test_end_to_end_is_no_change(self):
        self.assertEqual(room_changes(TOUCHING, {"a": 0, "b": 0, "c": 0}, 1), 0)

    def test_a_moment_between_is_one(self):
        sheet = (("a", 0, 5), ("b", 6, 10), ("c", 10, 15), ("d", 40, 41))
        self.assertEqual(room_changes(sheet, {"a": 0, "b": 0, "c": 0, "d": 0}, 1), 2)
        self.assertEqual(room_changes(sheet[:2], {"a": 0, "b": 0}, 1), 1)

    def test_each_room_counts_by_itself(self):
        sheet = (("a", 0, 5), ("b", 5, 10), ("c", 10, 15), ("d", 15, 20))
        self.assertEqual(room_changes(sheet, {"a": 0, "b": 0, "c": 0, "d": 0}, 2), 0)
        self.assertEqual(room_changes(sheet, {"a": 0, "b": 1, "c": 0, "d": 1}, 2), 2)
        self.assertEqual(room_changes(sheet, {"a": 0, "b": 1, "c": 2, "d": 3}, 4), 0)
        self.assertEqual(room_changes(SHEET, room_plan(SHEET, 2), 2), 1)

    def test_only_the_next_one_in_a_room_counts(self):
        sheet = (("a", 0, 1), ("b", 2, 3), ("c", 4, 5), ("d", 6, 7))
        self.assertEqual(room_changes(sheet, {"a": 0, "b": 0, "c": 0, "d": 0}, 1), 3)

    def test_by_their_beginnings_not_by_their_names(self):
        sheet = (("a", 10, 15), ("b", 5, 10), ("c", 0, 5))
        self.assertEqual(room_changes(sheet, {"a": 0, "b": 0, "c": 0}, 1), 0)
        self.assertEqual(room_changes(sheet, {"a": 0, "b": 1, "c": 0}, 2), 1)

    def test_only_rooms_below(self):
        sheet = (("a", 0, 1), ("b", 2, 3), ("c", 4, 5), ("d", 6, 7), ("e", 8, 9))
        plan = {"a": 0, "b": 2, "c": 0, "d": 2, "e": 2}
        self.assertEqual([room_changes(sheet, plan, rooms) for rooms in (0, 1, 2, 3, 9)], [0, 1, 1, 3, 3])

    def test_no_meetings(self):
        self.assertEqual(room_changes((), {}, 0), 0)
        self.assertEqual(room_changes((), {}, 3), 0)

    def test_many_plans(self):
        for sheet in long_sheets(4, 16, 2):
            plan = columns(sheet)
            wanted = 0
            for room in range(16):
                taken = sorted([(begin, end) for name, begin, end in sheet if plan[name] == room])
                wanted += sum(end < begin for (first, end), (begin, last) in zip(taken, taken[1:]))
            with self.subTest(sheet=sheet):
                self.assertEqual(room_changes(sheet, plan, 16), wanted)


class FittingPlanTest(unittest.TestCase):
    def check(self, answer, sheet, sizes, heads):
        with self.subTest(sheet=sheet, sizes=sizes, heads=heads):
            plan = fitting_plan(sheet, sizes, heads)
            if answer:
                self.assertIsInstance(plan, dict)
                self.assertTrue(is_fitting(sheet, sizes, heads, plan), plan)
            else:
                self.assertIsNone(plan)

    def test_one_meeting(self):
        one = (("a", 0, 5),)
        self.assertEqual(fitting_plan(one, [3], {"a": 3}), {"a": 0})
        self.assertEqual(fitting_plan(one, [2, 4], {"a": 3}), {"a": 1})
        self.check(True, one, [3, 9, 3], {"a": 3})
        self.check(False, one, [2], {"a": 3})
        self.check(True, one, [0], {"a": 0})

    def test_no_meetings_and_no_rooms(self):
        self.assertEqual(fitting_plan((), [], {}), {})
        self.assertEqual(fitting_plan((), [5, 1], {}), {})
        self.check(False, (("a", 0, 5),), [], {"a": 0})

    def test_as_many_rooms_as_are_needed_and_one_fewer(self):
        heads = {"a": 1, "b": 1, "c": 1}
        self.check(True, ALIKE, [1, 1, 1], heads)
        self.check(True, ALIKE, [7, 1, 3], heads)
        self.check(False, ALIKE, [1, 1], heads)
        self.check(False, ALIKE, [9, 9], heads)
        self.check(True, TOUCHING, [1], heads)

    def test_great_ones_in_the_great_rooms(self):
        self.assertEqual(fitting_plan(ALIKE, [3, 1, 2], {"a": 1, "b": 2, "c": 3}), {"a": 1, "b": 2, "c": 0})
        self.check(False, ALIKE, [3, 1, 1], {"a": 1, "b": 2, "c": 3})
        self.check(True, TOUCHING, [1, 3], {"a": 1, "b": 2, "c": 3})

    def test_the_first_room_that_is_great_enough_must_be_left_to_a_later_one(self):
        heads = {"a": 1, "b": 1, "c": 2}
        for sizes, plan in (([1, 2], {"a": 1, "b": 0, "c": 1}), ([2, 1], {"a": 0, "b": 1, "c": 0})):
            self.assertEqual(fitting_plan(LEFT_TO_LATER, sizes, heads), plan)
        self.assertEqual(fitting_plan((("a", 0, 9), ("b", 1, 9)), [5, 2], {"a": 2, "b": 5}), {"a": 1, "b": 0})

    def test_no_plan_though_there_are_rooms_at_each_moment(self):
        heads = {"a": 1, "b": 1, "c": 2, "d": 2}
        self.check(False, NO_PLAN, [2, 1], heads)
        self.check(True, NO_PLAN, [2, 2], heads)
        self.check(True, NO_PLAN, [2, 1, 1], heads)
        self.check(True, NO_PLAN[:3], [2, 1], heads)

    def test_heads_below_0_and_of_names_of_no_meeting(self):
        self.check(True, TOUCHING, [0], {"a": -1, "b": 0, "c": -5})
        self.check(True, TOUCHING, [1], {"a": 1, "b": 0, "c": 1, "x": 99})

    def test_short_sheets(self):
        for sheet in list(short_sheets())[::11]:
            for given in itertools.product((1, 2, 3), repeat=len(sheet)):
                heads = dict(zip("abc", given))
                for sizes in ([3], [1, 3], [2, 2], [3, 1, 2], [3, 3, 1]):
                    self.check(has_plan(sheet, sizes, heads), sheet, sizes, heads)

    def test_longer_sheets(self):
        source = numbers(3)
        answers = []
        for sheet in long_sheets(4, 7, 40):
            heads = dict([(meeting[0], next(source) % 3 + 1) for meeting in sheet])
            sizes = [next(source) % 3 + 1 for room in range(most_at_once(sheet))]
            answers.append(has_plan(sheet, sizes, heads))
            self.check(answers[-1], sheet, sizes, heads)
        self.assertEqual(set(answers), {True, False})

    def test_sixteen_at_once(self):
        letters = "abcdefghijklmnop"
        sheet = tuple([(letter, k, 100 + k) for k, letter in enumerate(letters)])
        heads = dict([(letter, k + 1) for k, letter in enumerate(letters)])
        self.check(True, sheet, list(range(1, 17)), heads)
        self.check(False, sheet, list(range(2, 17)), heads)
        self.check(False, sheet, [1] + list(range(1, 16)), heads)
        self.check(False, sheet, [50] * 15, heads)
        self.check(True, sheet, [50] * 1000, heads)
        low = dict([(letter, 1) for letter in letters])
        self.check(True, sheet, list(range(1, 17)), low)
        self.check(False, sheet, list(range(2, 17)), low)

    def test_no_plan_among_many_others(self):
        # The four that have no plan, beside twelve that go on all along in rooms of their own.
        others = tuple([(letter, k % 4, 40 - k) for k, letter in enumerate("efghijklmnop")])
        heads = dict([(letter, 1) for letter in "abefghijklmnop"], c=9, d=9)
        sheet = (("a", 10, 15), ("b", 14, 20), ("c", 10, 12), ("d", 18, 20)) + others
        self.check(False, sheet, [9] + [1] * 13, heads)
        self.check(True, sheet, [9] + [1] * 14, heads)
        self.check(True, sheet, [9, 9] + [1] * 12, heads)

    def test_there_is_a_plan_for_as_many_rooms_as_go_on_at_once(self):
        for sheet in itertools.chain(list(short_sheets())[::5], long_sheets(4, 16, 2)):
            heads = dict([(meeting[0], 4) for meeting in sheet])
            self.check(True, sheet, [4] * most_at_once(sheet), heads)
            if sheet:
                self.check(False, sheet, [4] * (most_at_once(sheet) - 1), heads)


class ToldThingsTest(unittest.TestCase):
    def test_told_dicts_are_new_ones(self):
        heads = {"a": 1, "bb": 1, "c": 1, "d": 1}
        asks = (
            lambda: room_plan(SHEET, 2), lambda: room_plan((), 0), lambda: fitting_plan((), [], {}),
            lambda: fitting_plan(SHEET, [1, 2], heads),
        )
        for ask in asks:
            wanted = dict(ask())
            ask()["zz"] = 5
            self.assertEqual(ask(), wanted)

    def test_what_is_handed_in_is_not_changed(self):
        sizes = [1, 2, 1]
        heads = {"d": 1, "c": 2, "bb": 1, "a": 1}
        plan = fitting_plan(SHEET, sizes, heads)
        self.assertEqual((sizes, list(heads.items())), ([1, 2, 1], [("d", 1), ("c", 2), ("bb", 1), ("a", 1)]))
        kept = list(plan.items())
        room_changes(SHEET, plan, 3)
        self.assertEqual(list(plan.items()), kept)


if __name__ == "__main__":
    unittest.main()
