"""Promises 3.1 to 3.5, 0.2 (b), and 0.3 as far as it speaks of columns."""

import itertools
import unittest
from fractions import Fraction

from daysheet.columns import (
    boxes, columns, do_cross, group_of, groups, is_laid, name_at_place, part_of, width_of,
)
from daysheet.errors import NoMeeting
from daysheet.loads import most_at_once
from daysheet.sheets import is_sheet, overlap, partners, with_meeting, with_times, without_meeting

# Two groups: in the first one a and c hang together only by bb.
SHEET = (("a", 0, 10), ("bb", 5, 15), ("c", 10, 20), ("d", 30, 480))
TOUCHING = (("a", 0, 5), ("b", 5, 10), ("c", 10, 15))
ALIKE = (("a", 3, 9), ("b", 3, 9), ("c", 3, 9))
# One group of width 3, though at most two of a, d, e and f go on at once.
WIDE = (("a", 0, 30), ("b", 0, 10), ("c", 0, 9), ("d", 12, 20), ("e", 25, 40), ("f", 35, 50))
SHORT_TIMES = [(begin, end) for begin in range(5) for end in range(begin + 1, 6)]


def short_sheets():
    for many in range(4):
        for times in itertools.product(SHORT_TIMES, repeat=many):
            yield tuple([(name,) + time for name, time in zip("abc", times)])


def long_sheets():
    # Sheets of up to 16 meetings, by a fixed rule, so that each run looks at the same ones.
    number = 7
    for many in range(4, 17):
        for spread in (8, 20, 60):
            sheet = []
            for letter in "abcdefghijklmnop"[:many]:
                number = (number * 1103515245 + 12345) % 2147483648
                begin = number // 65536 % spread
                number = (number * 1103515245 + 12345) % 2147483648
                sheet.append((letter, begin, begin + 1 + number // 65536 % 9))
            yield tuple(sheet)


def all_sheets():
    return itertools.chain(short_sheets(), long_sheets())


def hanging(sheet, name):
    # Straight from the words: whatever overlaps one of the group is of the group.
    group = {name}
    while True:
        more = {other for member in group for other in partners(sheet, member)}
        if more <= group:
            return sorted(group)
        group |= more


def box_named(sheet, name):
    return [box for box in boxes(sheet) if box[0] == name][0]


class GroupsTest(unittest.TestCase):
    def test_no_meetings(self):
        self.assertEqual(groups(()), [])

    def test_ordinary_groups(self):
        self.assertEqual(groups(SHEET), [["a", "bb", "c"], ["d"]])
        self.assertEqual(groups((("a", 0, 480),)), [["a"]])
        self.assertEqual(groups(ALIKE), [["a", "b", "c"]])

    def test_meetings_that_touch_do_not_hang_together(self):
        self.assertEqual(groups(TOUCHING), [["a"], ["b"], ["c"]])

    def test_a_third_meeting_holds_two_together(self):
        held = TOUCHING + (("z", 4, 11),)
        self.assertEqual(groups(held), [["a", "b", "c", "z"]])
        self.assertEqual(groups((("a", 0, 5), ("b", 4, 9), ("c", 8, 12), ("d", 12, 13))), [["a", "b", "c"], ["d"]])
        # The long one holds those that lie far apart, and a short one between them does not end the group.
        self.assertEqual(groups((("a", 0, 100), ("b", 1, 2), ("c", 50, 60))), [["a", "b", "c"]])

    def test_order_by_first_beginnings_and_names_within(self):
        self.assertEqual(groups((("a", 50, 60), ("b", 0, 5), ("c", 20, 30))), [["b"], ["c"], ["a"]])
        self.assertEqual(groups((("a", 7, 9), ("b", 0, 8), ("c", 30, 31))), [["a", "b"], ["c"]])
        self.assertEqual(groups((("aa", 6, 9), ("b", 0, 8), ("bb", 7, 10))), [["aa", "b", "bb"]])

    def test_group_of(self):
        for name in ("a", "bb", "c"):
            self.assertEqual(group_of(SHEET, name), ["a", "bb", "c"])
        self.assertEqual(group_of(SHEET, "d"), ["d"])
        self.assertEqual(group_of(TOUCHING, "b"), ["b"])

    def test_group_of_no_meeting(self):
        for sheet, name in (((), "a"), (SHEET, "b"), (SHEET, "e"), (SHEET, ""), (SHEET, "aa")):
            with self.subTest(name=name), self.assertRaises(NoMeeting):
                group_of(sheet, name)

    def test_many_sheets(self):
        for sheet in all_sheets():
            with self.subTest(sheet=sheet):
                told = groups(sheet)
                self.assertEqual(sorted(name for group in told for name in group), [part[0] for part in sheet])
                begins = [min(part[1] for part in sheet if part[0] in group) for group in told]
                self.assertEqual(begins, sorted(set(begins)))
                for group in told:
                    for name in group:
                        self.assertEqual(group, hanging(sheet, name))
                        self.assertEqual(group_of(sheet, name), group)


class ColumnsTest(unittest.TestCase):
    def test_no_meetings(self):
        self.assertEqual(columns(()), {})

    def test_ordinary_columns(self):
        self.assertEqual(columns(SHEET), {"a": 0, "bb": 1, "c": 0, "d": 0})
        self.assertEqual(columns(WIDE), {"a": 0, "b": 1, "c": 2, "d": 1, "e": 1, "f": 0})

    def test_early_ones_first(self):
        self.assertEqual(columns((("a", 5, 20), ("b", 0, 6))), {"a": 1, "b": 0})
        self.assertEqual(columns((("a", 1, 100), ("b", 0, 2))), {"a": 1, "b": 0})

    def test_of_those_that_begin_together_the_longer_ones_first(self):
        self.assertEqual(columns((("a", 0, 5), ("b", 0, 6))), {"a": 1, "b": 0})
        self.assertEqual(columns((("a", 0, 5), ("b", 0, 7), ("c", 0, 6))), {"a": 2, "b": 0, "c": 1})

    def test_of_these_by_their_names(self):
        self.assertEqual(columns(ALIKE), {"a": 0, "b": 1, "c": 2})
        self.assertEqual(columns((("a", 0, 5), ("aa", 0, 5), ("b", 0, 5))), {"a": 0, "aa": 1, "b": 2})

    def test_meetings_that_touch_go_into_one_column(self):
        self.assertEqual(columns(TOUCHING), {"a": 0, "b": 0, "c": 0})

    def test_the_first_column_that_is_free_again(self):
        self.assertEqual(columns((("a", 0, 9), ("b", 1, 3), ("c", 2, 9), ("d", 3, 9))), {"a": 0, "b": 1, "c": 2, "d": 1})

    def test_sixteen_and_seventeen_at_once(self):
        for many in (16, 17):
            sheet = tuple([(letter, 0, 480) for letter in "abcdefghijklmnopq"[:many]])
            self.assertEqual(columns(sheet), {letter: k for k, letter in enumerate("abcdefghijklmnopq"[:many])})

    def test_many_sheets_are_laid_as_told(self):
        for sheet in all_sheets():
            wanted = {}
            for name, begin, end in sorted(sheet, key=lambda part: (part[1], part[1] - part[2], part[0])):
                taken = [wanted[other] for other in partners(sheet, name) if other in wanted]
                wanted[name] = min(set(range(20)) - set(taken))
            with self.subTest(sheet=sheet):
                self.assertEqual(columns(sheet), wanted)

    def test_each_group_takes_as_many_columns_as_go_on_at_once(self):
        for sheet in all_sheets():
            laying = columns(sheet)
            with self.subTest(sheet=sheet):
                self.assertIs(is_laid(sheet, laying), True)
                for group in groups(sheet):
                    part = tuple([meeting for meeting in sheet if meeting[0] in group])
                    self.assertEqual({laying[name] for name in group}, set(range(most_at_once(part))))

    def test_no_laying_takes_fewer(self):
        times = [(begin, end) for begin in range(4) for end in range(begin + 1, 5)]
        for chosen in itertools.combinations_with_replacement(times, 4):
            sheet = tuple([(name,) + time for name, time in zip("abcd", chosen)])
            with self.subTest(sheet=sheet):
                for numbers in itertools.product(range(most_at_once(sheet) - 1), repeat=4):
                    self.assertIs(is_laid(sheet, dict(zip("abcd", numbers))), False)


class IsLaidTest(unittest.TestCase):
    def test_layings(self):
        self.assertIs(is_laid(SHEET, {"a": 0, "bb": 1, "c": 0, "d": 0}), True)
        self.assertIs(is_laid(SHEET, {"d": 7, "c": 3, "bb": 0, "a": 99}), True)
        self.assertIs(is_laid(TOUCHING, {"a": 4, "b": 4, "c": 4}), True)
        self.assertIs(is_laid(SHEET, {"a": -1, "bb": 0, "c": -1, "d": 0}), True)

    def test_no_meetings(self):
        self.assertIs(is_laid((), {}), True)
        self.assertIs(is_laid((), {"a": 0}), False)

    def test_a_column_too_few(self):
        self.assertIs(is_laid(SHEET, {}), False)
        for name in ("a", "bb", "c", "d"):
            laying = columns(SHEET)
            laying.pop(name)
            self.assertIs(is_laid(SHEET, laying), False)

    def test_a_column_too_many(self):
        for name in ("b", "e", "", "aa", "A"):
            laying = columns(SHEET)
            laying[name] = 5
            self.assertIs(is_laid(SHEET, laying), False)

    def test_a_column_for_another_name(self):
        self.assertIs(is_laid(SHEET, {"a": 0, "b": 1, "c": 0, "d": 0}), False)

    def test_two_that_overlap_in_one(self):
        self.assertIs(is_laid(SHEET, {"a": 1, "bb": 1, "c": 0, "d": 0}), False)
        self.assertIs(is_laid(SHEET, {"a": 0, "bb": 1, "c": 1, "d": 0}), False)
        self.assertIs(is_laid(ALIKE, {"a": 0, "b": 1, "c": 0}), False)

    def test_truths_are_no_columns(self):
        self.assertIs(is_laid((("a", 0, 1),), {"a": False}), False)
        self.assertIs(is_laid((("a", 0, 1),), {"a": True}), False)
        self.assertIs(is_laid(SHEET, {"a": 0, "bb": True, "c": 0, "d": 0}), False)

    def test_all_layings_of_short_sheets(self):
        for sheet in short_sheets():
            if len(sheet) == 3:
                with self.subTest(sheet=sheet):
                    for numbers in itertools.product(range(3), repeat=3):
                        laying = dict(zip("abc", numbers))
                        pairs = itertools.combinations(sheet, 2)
                        clash = any(overlap(p, q) and laying[p[0]] == laying[q[0]] for p, q in pairs)
                        self.assertIs(is_laid(sheet, laying), not clash)


class WidthTest(unittest.TestCase):
    def test_width_of(self):
        self.assertEqual([width_of(SHEET, name) for name in ("a", "bb", "c", "d")], [2, 2, 2, 1])
        self.assertEqual([width_of(TOUCHING, name) for name in "abc"], [1, 1, 1])
        self.assertEqual([width_of(ALIKE, name) for name in "abc"], [3, 3, 3])
        # Also one that itself never goes on with two others has the width of its group.
        self.assertEqual([width_of(WIDE, name) for name in "abcdef"], [3] * 6)

    def test_other_groups_do_not_count(self):
        sheet = ALIKE + (("d", 9, 12), ("e", 20, 30), ("f", 22, 23))
        self.assertEqual([width_of(sheet, name) for name in "abcdef"], [3, 3, 3, 1, 2, 2])

    def test_no_meeting(self):
        for sheet, name in (((), "a"), (SHEET, "b"), (SHEET, "e"), (SHEET, "")):
            with self.subTest(name=name), self.assertRaises(NoMeeting):
                width_of(sheet, name)

    def test_many_sheets(self):
        for sheet in all_sheets():
            for name, begin, end in sheet:
                group = hanging(sheet, name)
                loads = [sum(p[0] in group and p[1] <= k < p[2] for p in sheet) for k in range(80)]
                with self.subTest(sheet=sheet, name=name):
                    self.assertEqual(width_of(sheet, name), max(loads))


class PartTest(unittest.TestCase):
    def test_part_of(self):
        a, bb, c, d = SHEET
        self.assertEqual(part_of(SHEET, ["a", "d"]), (a, d))
        self.assertEqual(part_of(SHEET, ["d", "a", "bb", "c"]), SHEET)
        self.assertEqual(part_of(SHEET, ["c", "c"]), (c,))
        self.assertEqual(part_of(SHEET, []), ())
        self.assertEqual(part_of((), ["a"]), ())
        self.assertEqual(part_of((), []), ())

    def test_names_of_no_meeting_add_nothing(self):
        self.assertEqual(part_of(SHEET, ["b", "e", "", "bbb"]), ())
        self.assertEqual(part_of(SHEET, ["b", "bb"]), (("bb", 5, 15),))

    def test_parts_are_sheets(self):
        for many in range(5):
            for names in itertools.permutations(["a", "bb", "c", "d"], many):
                part = part_of(SHEET, list(names))
                self.assertIs(is_sheet(part), True)
                self.assertEqual([meeting[0] for meeting in part], sorted(names))


class BoxesTest(unittest.TestCase):
    def test_no_meetings(self):
        self.assertEqual(boxes(()), [])

    def test_ordinary_boxes(self):
        self.assertEqual(boxes(SHEET), [("a", 0, 1, 2), ("bb", 1, 2, 2), ("c", 0, 1, 2), ("d", 0, 1, 1)])
        self.assertEqual(boxes(TOUCHING), [("a", 0, 1, 1), ("b", 0, 1, 1), ("c", 0, 1, 1)])
        self.assertEqual(boxes(ALIKE), [("a", 0, 1, 3), ("b", 1, 2, 3), ("c", 2, 3, 3)])

    def test_boxes_go_on_to_the_next_that_overlaps_or_to_the_whole_width(self):
        wanted = [("a", 0, 1, 3), ("b", 1, 2, 3), ("c", 2, 3, 3), ("d", 1, 3, 3), ("e", 1, 3, 3), ("f", 0, 1, 3)]
        self.assertEqual(boxes(WIDE), wanted)
        # e overlaps only what lies in columns 0 and 3, so it goes over column 2 and stops at d.
        sheet = (("a", 0, 20), ("b", 1, 5), ("c", 2, 5), ("d", 3, 20), ("e", 6, 9))
        wanted = [("a", 0, 1, 4), ("b", 1, 2, 4), ("c", 2, 3, 4), ("d", 3, 4, 4), ("e", 1, 3, 4)]
        self.assertEqual(boxes(sheet), wanted)

    def test_many_sheets(self):
        for sheet in all_sheets():
            laying = columns(sheet)
            told = boxes(sheet)
            with self.subTest(sheet=sheet):
                self.assertEqual([box[0] for box in told], [meeting[0] for meeting in sheet])
                for name, first, last, most in told:
                    self.assertEqual(most, width_of(sheet, name))
                    self.assertEqual(first, laying[name])
                    beside = [laying[other] for other in partners(sheet, name)]
                    self.assertLess(first, last)
                    self.assertTrue(last == most or last in beside)
                    for number in range(first + 1, last):
                        self.assertTrue(number != most and number not in beside)

    def test_boxes_of_meetings_that_overlap_do_not_cross_and_none_can_go_on_further(self):
        for sheet in all_sheets():
            told = dict(zip([meeting[0] for meeting in sheet], boxes(sheet)))
            with self.subTest(sheet=sheet):
                for name, box in told.items():
                    beside = [told[other] for other in partners(sheet, name)]
                    self.assertFalse(any(do_cross(box, other) for other in beside))
                    wider = (name, box[1], box[2] + 1, box[3])
                    if box[2] < box[3]:
                        self.assertTrue(any(do_cross(wider, other) for other in beside))
                    self.assertLessEqual(box[2], box[3])

    def check_kept(self, old, new, changed):
        untouched = [group for group in groups(old) if changed not in group and group in groups(new)]
        for group in untouched:
            for name in group:
                self.assertEqual(box_named(old, name), box_named(new, name))

    def test_groups_that_a_change_does_not_touch_keep_their_boxes(self):
        for sheet in list(short_sheets())[::7] + list(long_sheets()):
            with self.subTest(sheet=sheet):
                for begin in (0, 3, 11, 40):
                    self.check_kept(sheet, with_times(sheet, "a", begin, begin + 4) if sheet else sheet, "a")
                    if len(sheet) < 16:
                        self.check_kept(sheet, with_meeting(sheet, "z", begin, begin + 4), "z")
                for name, begin, end in sheet:
                    self.check_kept(sheet, without_meeting(sheet, name), name)


class CrossTest(unittest.TestCase):
    def check(self, answer, one, other):
        with self.subTest(one=one, other=other):
            self.assertIs(do_cross(one, other), answer)
            self.assertIs(do_cross(other, one), answer)

    def test_boxes_of_one_width(self):
        self.check(True, ("a", 0, 2, 3), ("b", 1, 3, 3))
        self.check(True, ("a", 0, 3, 3), ("b", 1, 2, 3))
        self.check(False, ("a", 0, 1, 3), ("b", 1, 3, 3))
        self.check(False, ("a", 0, 1, 3), ("b", 2, 3, 3))

    def test_boxes_of_unlike_widths(self):
        self.check(False, ("a", 0, 1, 2), ("b", 2, 4, 4))
        self.check(True, ("a", 0, 1, 2), ("b", 1, 2, 4))
        self.check(True, ("a", 0, 1, 2), ("b", 1, 2, 3))
        self.check(False, ("a", 0, 1, 3), ("b", 1, 2, 2))
        self.check(False, ("a", 2, 3, 6), ("b", 1, 2, 2))
        self.check(True, ("a", 0, 1, 1), ("b", 15, 16, 16))

    def test_a_box_crosses_itself(self):
        self.check(True, ("a", 0, 1, 1), ("a", 0, 1, 1))
        self.check(True, ("a", 2, 3, 7), ("b", 2, 3, 7))

    def test_all_small_boxes(self):
        small = [("a", f, k, most) for most in range(1, 6) for f in range(most) for k in range(f + 1, most + 1)]
        for one, other in itertools.product(small, repeat=2):
            begin = max(Fraction(one[1], one[3]), Fraction(other[1], other[3]))
            end = min(Fraction(one[2], one[3]), Fraction(other[2], other[3]))
            self.check(begin < end, one, other)


class PlaceTest(unittest.TestCase):
    def check(self, name, moment, part, whole, sheet=SHEET):
        with self.subTest(moment=moment, part=part, whole=whole):
            self.assertEqual(name_at_place(sheet, moment, part, whole), name)

    def test_just_at_a_boxs_first_and_just_at_its_last(self):
        self.check("a", 7, 0, 2)
        self.check("bb", 7, 1, 2)
        self.check(None, 7, 2, 2)
        self.check("a", 7, 49, 100)
        self.check("bb", 7, 50, 100)
        self.check("bb", 7, 99, 100)
        self.check(None, 7, 100, 100)
        self.check("a", 7, 1, 3)
        self.check("bb", 7, 2, 3)

    def test_outside_of_the_width(self):
        for part, whole in ((-1, 1), (-1, 100), (1, 1), (101, 100), (5, 2)):
            self.check(None, 7, part, whole)

    def test_a_box_that_no_meeting_of_the_moment_fills(self):
        self.check("a", 2, 0, 1)
        self.check(None, 2, 1, 2)
        self.check("d", 479, 0, 1)
        self.check("d", 479, 999, 1000)

    def test_moments_at_the_ends_of_meetings(self):
        self.check("a", 9, 0, 2)
        self.check("c", 10, 0, 2)
        self.check("bb", 14, 1, 2)
        self.check(None, 15, 1, 2)
        self.check("bb", 5, 1, 2)
        self.check(None, 4, 1, 2)
        for moment in (-1, 20, 29, 480, 1000):
            self.check(None, moment, 0, 1)

    def test_no_meetings(self):
        self.check(None, 0, 0, 1, ())

    def test_wider_boxes(self):
        self.check("d", 15, 1, 3, WIDE)
        self.check("d", 15, 2, 3, WIDE)
        self.check("a", 15, 0, 3, WIDE)
        self.check("f", 45, 0, 3, WIDE)
        self.check(None, 45, 1, 3, WIDE)

    def test_many_places(self):
        for sheet in list(short_sheets())[::11] + list(long_sheets())[::4] + [WIDE]:
            told = boxes(sheet)
            going = {k: [p[0] for p in sheet if p[1] <= k < p[2]] for k in range(-1, 24)}
            for moment, (part, whole) in itertools.product(going, [(k, 12) for k in range(-1, 14)] + [(2, 5), (3, 7)]):
                place = Fraction(part, whole)
                found = [
                    name for name, first, last, most in told
                    if name in going[moment] and Fraction(first, most) <= place < Fraction(last, most)
                ]
                self.assertLessEqual(len(found), 1)
                self.check(found[0] if found else None, moment, part, whole, sheet)


class ToldThingsTest(unittest.TestCase):
    def test_told_lists_are_new_ones(self):
        for ask in (groups, boxes, lambda sheet: group_of(sheet, "a")):
            wanted = [list(row) if isinstance(row, list) else row for row in ask(SHEET)]
            first = ask(SHEET)
            if isinstance(first[0], list):
                first[0].append("zz")
            first.append("zz")
            self.assertEqual(ask(SHEET), wanted)
        for ask in (groups, boxes):
            ask(()).append("zz")
            self.assertEqual(ask(()), [])

    def test_told_dicts_are_new_ones(self):
        for sheet in ((), SHEET):
            wanted = dict(columns(sheet))
            columns(sheet)["zz"] = 5
            self.assertEqual(columns(sheet), wanted)

    def test_kinds(self):
        self.assertIsInstance(boxes(SHEET)[0], tuple)
        self.assertIsInstance(groups(SHEET)[0], list)
        self.assertIsInstance(part_of(SHEET, ["a"]), tuple)

    def test_what_is_handed_in_is_not_changed(self):
        laying = {"d": 0, "a": 0, "bb": 1, "c": 0}
        is_laid(SHEET, laying)
        self.assertEqual(list(laying.items()), [("d", 0), ("a", 0), ("bb", 1), ("c", 0)])
        names = ["d", "x", "a", "a"]
        part_of(SHEET, names)
        self.assertEqual(names, ["d", "x", "a", "a"])


if __name__ == "__main__":
    unittest.main()
