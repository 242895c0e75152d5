"""Promises 1.1, 1.2, 1.3, and 0.3 as far as it speaks of sheets."""

import itertools
import unittest

from daysheet.errors import NoMeeting, NoTime, Taken, TooMany
from daysheet.sheets import (
    is_meeting, is_sheet, meeting_of, moved, names_at, overlap, partners, stretched, with_meeting, with_times,
    without_meeting,
)

LETTERS = "abcdefghijklmnopqrstuvwxyz"
SHEET = (("a", 0, 10), ("bb", 5, 15), ("c", 10, 20), ("d", 30, 480))
WRONG_TIMES = (
    (5, 5), (6, 5), (-1, 5), (-5, -1), (0, 481), (480, 481), (480, 480), (0, 0), (481, 490),
    (True, 5), (False, 5), (0, True), (None, 5), (0, None), ("0", 5), (0, "5"), ((0,), 5), (0, [5]),
)
# Things of every sort that 0.3 names, none of them a meeting or a sheet.
OTHER_THINGS = (
    None, True, False, 0, 1, -1, 480, "", "a", "abc", [], [[]], [()], [[[[[1]]]]], ((((("a",),),),),),
    [("a", 0, 1)], (None,), (True,), (0,), ("a",), ([],), (1, 2, 3), (None, None, None), ("a", "b", "c"),
)


def full_sheet(many):
    return tuple([(letter, 0, 1) for letter in LETTERS[:many]])


class IsMeetingTest(unittest.TestCase):
    def check(self, answer, thing):
        with self.subTest(thing=thing):
            self.assertIs(is_meeting(thing), answer)

    def test_meetings(self):
        for thing in (("a", 0, 1), ("z", 0, 480), ("abcd", 479, 480), ("az", 3, 17), ("aaa", 1, 2)):
            self.check(True, thing)

    def test_wrong_names(self):
        names = ("", "abcde", "A", "aB", "a1", "1", "a b", " a", "a\n", "a-", "`", "{", "\xe4", "\xdf", "\u0430",
                 None, 0, 1, True, ("a",), ["a"], [], ())
        for name in names:
            self.check(False, (name, 0, 1))

    def test_wrong_times(self):
        for begin, end in WRONG_TIMES:
            self.check(False, ("a", begin, end))

    def test_wrong_forms(self):
        for thing in (["a", 0, 1], ("a", 0), ("a", 0, 1, 2), ("a", 0, 1, None), (("a", 0, 1),), (), "a01"):
            self.check(False, thing)

    def test_other_things(self):
        for thing in OTHER_THINGS:
            self.check(False, thing)


class IsSheetTest(unittest.TestCase):
    def check(self, answer, thing):
        with self.subTest(thing=thing):
            self.assertIs(is_sheet(thing), answer)

    def test_sheets(self):
        for thing in ((), (("a", 0, 480),), SHEET, full_sheet(2), full_sheet(15)):
            self.check(True, thing)

    def test_sixteen_and_seventeen(self):
        self.check(True, full_sheet(16))
        self.check(False, full_sheet(17))

    def test_names_rise_by_pythons_order(self):
        self.check(True, (("a", 0, 1), ("aa", 0, 1), ("ab", 0, 1), ("b", 0, 1)))
        self.check(True, (("a", 9, 10), ("b", 0, 1)))
        self.check(False, (("b", 0, 1), ("a", 0, 1)))
        self.check(False, (("b", 0, 1), ("aa", 0, 1)))
        self.check(False, (("a", 0, 1), ("c", 0, 1), ("b", 0, 1)))

    def test_no_name_twice(self):
        self.check(False, (("a", 0, 1), ("a", 0, 1)))
        self.check(False, (("a", 0, 1), ("a", 1, 2)))
        self.check(False, (("a", 0, 1), ("b", 0, 1), ("b", 3, 4)))

    def test_parts_that_are_no_meetings(self):
        for part in (["b", 0, 1], ("b", 0, 0), ("b", False, 1), ("b", 0, True), ("bbbbb", 0, 1), None, 1, "b", ()):
            self.check(False, (("a", 0, 1), part))
            self.check(False, (part, ("c", 0, 1)))
            self.check(False, (part,))

    def test_other_things(self):
        self.check(False, ("a", 0, 1))
        self.check(False, list(SHEET))
        for thing in OTHER_THINGS:
            self.check(False, thing)


class MeetingOfTest(unittest.TestCase):
    def test_each_meeting(self):
        for meeting in SHEET:
            self.assertEqual(meeting_of(SHEET, meeting[0]), meeting)

    def test_no_meeting(self):
        for sheet, name in (((), "a"), (SHEET, "b"), (SHEET, "e"), (SHEET, "aa"), (SHEET, "")):
            with self.subTest(name=name), self.assertRaises(NoMeeting):
                meeting_of(sheet, name)


class WithMeetingTest(unittest.TestCase):
    def test_one_more_in_its_place(self):
        self.assertEqual(with_meeting((), "a", 0, 480), (("a", 0, 480),))
        a, bb, c, d = SHEET
        self.assertEqual(with_meeting(SHEET, "b", 400, 401), (a, ("b", 400, 401), bb, c, d))
        self.assertEqual(with_meeting(SHEET, "aa", 479, 480), (a, ("aa", 479, 480), bb, c, d))
        self.assertEqual(with_meeting(SHEET, "zzzz", 0, 1), SHEET + (("zzzz", 0, 1),))
        self.assertEqual(with_meeting(SHEET[1:], "a", 100, 101), (("a", 100, 101), bb, c, d))

    def test_any_order_leads_to_one_sheet(self):
        for order in itertools.permutations(SHEET):
            sheet = ()
            for meeting in order:
                sheet = with_meeting(sheet, meeting[0], meeting[1], meeting[2])
                self.assertIs(is_sheet(sheet), True)
            self.assertEqual(sheet, SHEET)

    def test_the_sixteenth_is_let_in_and_no_more(self):
        self.assertEqual(with_meeting(full_sheet(15), "p", 0, 1), full_sheet(16))
        for many in (16, 17):
            with self.subTest(many=many), self.assertRaises(TooMany):
                with_meeting(full_sheet(many), "z", 0, 1)

    def test_taken(self):
        for name, begin, end in SHEET:
            with self.subTest(name=name), self.assertRaises(Taken):
                with_meeting(SHEET, name, begin, end)
            with self.subTest(name=name), self.assertRaises(Taken):
                with_meeting(SHEET, name, 2, 3)

    def test_no_time(self):
        for begin, end in WRONG_TIMES:
            with self.subTest(begin=begin, end=end), self.assertRaises(NoTime):
                with_meeting(SHEET, "e", begin, end)
            with self.subTest(begin=begin, end=end), self.assertRaises(NoTime):
                with_meeting((), "e", begin, end)

    def test_the_turn_of_the_refusals(self):
        full = full_sheet(16)
        for begin, end in WRONG_TIMES:
            with self.subTest(begin=begin, end=end), self.assertRaises(Taken):
                with_meeting(SHEET, "a", begin, end)
            with self.subTest(begin=begin, end=end), self.assertRaises(Taken):
                with_meeting(full, "a", begin, end)
            with self.subTest(begin=begin, end=end), self.assertRaises(NoTime):
                with_meeting(full, "z", begin, end)
        with self.assertRaises(Taken):
            with_meeting(full, "a", 0, 1)


class WithoutMeetingTest(unittest.TestCase):
    def test_all_others_stay(self):
        for place, meeting in enumerate(SHEET):
            self.assertEqual(without_meeting(SHEET, meeting[0]), SHEET[:place] + SHEET[place + 1:])
        self.assertEqual(without_meeting((("a", 0, 1),), "a"), ())

    def test_no_meeting(self):
        for sheet, name in (((), "a"), (SHEET, "b"), (full_sheet(16), "z")):
            with self.subTest(name=name), self.assertRaises(NoMeeting):
                without_meeting(sheet, name)


class WithTimesTest(unittest.TestCase):
    def test_these_times(self):
        a, bb, c, d = SHEET
        self.assertEqual(with_times(SHEET, "bb", 479, 480), (a, ("bb", 479, 480), c, d))
        self.assertEqual(with_times(SHEET, "d", 0, 1), (a, bb, c, ("d", 0, 1)))
        self.assertEqual(with_times(SHEET, "a", 0, 480), (("a", 0, 480), bb, c, d))
        self.assertEqual(with_times(SHEET, "c", 10, 20), SHEET)

    def test_a_full_sheet_is_not_refused(self):
        for many in (16, 17):
            sheet = full_sheet(many)
            self.assertEqual(with_times(sheet, "a", 2, 3), (("a", 2, 3),) + sheet[1:])

    def test_no_time(self):
        for begin, end in WRONG_TIMES:
            with self.subTest(begin=begin, end=end), self.assertRaises(NoTime):
                with_times(SHEET, "a", begin, end)

    def test_no_meeting_comes_first(self):
        for begin, end in ((0, 1),) + WRONG_TIMES:
            with self.subTest(begin=begin, end=end), self.assertRaises(NoMeeting):
                with_times(SHEET, "e", begin, end)


class MovedTest(unittest.TestCase):
    def test_both_are_greater(self):
        a, bb, c, d = SHEET
        self.assertEqual(moved(SHEET, "bb", 3), (a, ("bb", 8, 18), c, d))
        self.assertEqual(moved(SHEET, "bb", -3), (a, ("bb", 2, 12), c, d))
        self.assertEqual(moved(SHEET, "bb", 0), SHEET)

    def test_up_to_the_edges(self):
        self.assertEqual(moved((("a", 5, 15),), "a", -5), (("a", 0, 10),))
        self.assertEqual(moved((("a", 5, 15),), "a", 465), (("a", 470, 480),))

    def test_no_time_beyond_the_edges(self):
        for by in (-6, -15, -1000, 466, 475, 1000):
            with self.subTest(by=by), self.assertRaises(NoTime):
                moved((("a", 5, 15),), "a", by)

    def test_truths_are_no_whole_numbers(self):
        for by in (True, False):
            with self.subTest(by=by), self.assertRaises(NoTime):
                moved((("a", 5, 15),), "a", by)
            with self.subTest(by=by), self.assertRaises(NoMeeting):
                moved((("a", 5, 15),), "b", by)

    def test_no_meeting_comes_first(self):
        for by in (0, 1, -1000, 1000):
            with self.subTest(by=by), self.assertRaises(NoMeeting):
                moved(SHEET, "e", by)


class StretchedTest(unittest.TestCase):
    def test_the_end_is_greater(self):
        a, bb, c, d = SHEET
        self.assertEqual(stretched(SHEET, "bb", 3), (a, ("bb", 5, 18), c, d))
        self.assertEqual(stretched(SHEET, "bb", -3), (a, ("bb", 5, 12), c, d))
        self.assertEqual(stretched(SHEET, "bb", 0), SHEET)

    def test_up_to_the_edges(self):
        self.assertEqual(stretched((("a", 5, 15),), "a", -9), (("a", 5, 6),))
        self.assertEqual(stretched((("a", 5, 15),), "a", 465), (("a", 5, 480),))

    def test_no_time_beyond_the_edges(self):
        for by in (-10, -11, -1000, 466, 1000):
            with self.subTest(by=by), self.assertRaises(NoTime):
                stretched((("a", 5, 15),), "a", by)

    def test_truths_are_no_whole_numbers(self):
        for by in (True, False):
            with self.subTest(by=by), self.assertRaises(NoTime):
                stretched((("a", 5, 15),), "a", by)
            with self.subTest(by=by), self.assertRaises(NoMeeting):
                stretched((("a", 5, 15),), "b", by)

    def test_no_meeting_comes_first(self):
        for by in (0, 1, -1000, 1000):
            with self.subTest(by=by), self.assertRaises(NoMeeting):
                stretched(SHEET, "e", by)


class OverlapTest(unittest.TestCase):
    def test_meetings_that_touch_do_not_overlap(self):
        self.assertIs(overlap(("a", 0, 5), ("b", 5, 10)), False)
        self.assertIs(overlap(("b", 5, 10), ("a", 0, 5)), False)
        self.assertIs(overlap(("a", 0, 6), ("b", 5, 10)), True)
        self.assertIs(overlap(("a", 0, 480), ("a", 479, 480)), True)

    def test_all_pairs_of_short_times(self):
        times = [(begin, end) for begin in range(5) for end in range(begin + 1, 6)]
        for one in times:
            for other in times:
                together = any(one[0] <= k < one[1] and other[0] <= k < other[1] for k in range(6))
                with self.subTest(one=one, other=other):
                    self.assertIs(overlap(("a",) + one, ("b",) + other), together)


class PartnersTest(unittest.TestCase):
    def test_in_order_of_the_sheet(self):
        self.assertEqual(partners(SHEET, "a"), ["bb"])
        self.assertEqual(partners(SHEET, "bb"), ["a", "c"])
        self.assertEqual(partners(SHEET, "c"), ["bb"])
        self.assertEqual(partners(SHEET, "d"), [])
        sheet = (("a", 8, 9), ("b", 0, 10), ("c", 3, 4), ("d", 10, 11), ("e", 1, 2))
        self.assertEqual(partners(sheet, "b"), ["a", "c", "e"])

    def test_same_times_are_partners(self):
        self.assertEqual(partners(full_sheet(4), "c"), ["a", "b", "d"])

    def test_no_meeting(self):
        for sheet, name in (((), "a"), (SHEET, "b"), (SHEET, "e")):
            with self.subTest(name=name), self.assertRaises(NoMeeting):
                partners(sheet, name)


class NamesAtTest(unittest.TestCase):
    def test_from_the_beginning_without_the_end(self):
        told = {-1: [], 0: ["a"], 4: ["a"], 5: ["a", "bb"], 9: ["a", "bb"], 10: ["bb", "c"], 15: ["c"], 19: ["c"],
                20: [], 29: [], 30: ["d"], 479: ["d"], 480: [], 1000: []}
        for moment, names in told.items():
            with self.subTest(moment=moment):
                self.assertEqual(names_at(SHEET, moment), names)

    def test_in_order_of_the_sheet_not_of_the_beginnings(self):
        self.assertEqual(names_at((("a", 7, 9), ("b", 0, 9), ("c", 3, 9)), 8), ["a", "b", "c"])

    def test_no_meetings(self):
        self.assertEqual(names_at((), 0), [])


class ToldThingsTest(unittest.TestCase):
    def test_told_lists_are_new_ones(self):
        for ask in (lambda: partners(SHEET, "bb"), lambda: names_at(SHEET, 5)):
            first = ask()
            wanted = list(first)
            first.append("zz")
            self.assertEqual(ask(), wanted)

    def test_told_sheets_are_sheets_of_tuples(self):
        sheets = (with_meeting(SHEET, "e", 0, 1), without_meeting(SHEET, "a"), with_times(SHEET, "a", 3, 4),
                  moved(SHEET, "a", 1), stretched(SHEET, "a", 1))
        for sheet in sheets:
            with self.subTest(sheet=sheet):
                self.assertIs(is_sheet(sheet), True)

    def test_what_is_handed_in_stays(self):
        sheet = (("a", 0, 10), ("b", 5, 15))
        with_meeting(sheet, "c", 0, 1)
        without_meeting(sheet, "a")
        with_times(sheet, "a", 1, 2)
        moved(sheet, "a", 1)
        stretched(sheet, "a", 1)
        self.assertEqual(sheet, (("a", 0, 10), ("b", 5, 15)))


if __name__ == "__main__":
    unittest.main()
