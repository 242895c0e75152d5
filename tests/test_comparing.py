"""Promises 11.1, 11.2, 0.2 (j), and 0.3 as far as it speaks of sheets side by side."""

import itertools
import unittest

from daysheet.columns import columns
from daysheet.comparing import common, merged, shared_time, shifted, turned_about, unlike_names
from daysheet.errors import NoTime, Taken, TooMany
from daysheet.loads import busy, most_at_once, worth_of
from daysheet.sheets import is_sheet

ONE = (("a", 0, 10), ("bb", 5, 15), ("c", 10, 20), ("d", 30, 480))
OTHER = (("a", 0, 10), ("b", 5, 15), ("c", 10, 21), ("e", 100, 110))
TIMES = ((0, 2), (1, 4), (3, 5))
LETTERS = "abcdefghijklmnopqrstuvwxyz"


def small_sheets():
    # Of each of three names none, or one of three times.
    for times in itertools.product((None,) + TIMES, repeat=3):
        yield tuple([(name,) + time for name, time in zip(("a", "ab", "b"), times) if time])


def long_sheets():
    # By a fixed rule, so that each run looks at the same ones.
    number = 13
    for many in range(1, 17):
        for spread in (10, 60, 400):
            sheet = []
            for letter in LETTERS[:many]:
                number = (number * 1103515245 + 12345) % 2147483648
                begin = number // 65536 % spread
                number = (number * 1103515245 + 12345) % 2147483648
                sheet.append((letter, begin, begin + 1 + number // 65536 % 70))
            yield tuple(sheet)


def full_sheet(letters):
    return tuple([(letter, 0, 1) for letter in letters])


def busy_moments(sheet):
    return {moment for name, begin, end in sheet for moment in range(begin, end)}


class UnlikeNamesTest(unittest.TestCase):
    def test_unlike_names(self):
        self.assertEqual(unlike_names(ONE, OTHER), (["bb", "d"], ["b", "e"], ["c"]))
        self.assertEqual(unlike_names(OTHER, ONE), (["b", "e"], ["bb", "d"], ["c"]))
        self.assertEqual(unlike_names(ONE, ONE), ([], [], []))

    def test_no_meetings(self):
        self.assertEqual(unlike_names((), ()), ([], [], []))
        self.assertEqual(unlike_names(ONE, ()), (["a", "bb", "c", "d"], [], []))
        self.assertEqual(unlike_names((), ONE), ([], ["a", "bb", "c", "d"], []))

    def test_one_unlike_time_is_enough(self):
        for time in ((1, 5), (0, 6), (5, 9)):
            self.assertEqual(unlike_names((("a", 0, 5),), (("a",) + time,)), ([], [], ["a"]))

    def test_small_sheets(self):
        for one, other in itertools.product(small_sheets(), repeat=2):
            first = {meeting[0]: meeting for meeting in one}
            second = {meeting[0]: meeting for meeting in other}
            wanted = (
                sorted(set(first) - set(second)), sorted(set(second) - set(first)),
                sorted(name for name in set(first) & set(second) if first[name] != second[name]),
            )
            self.assertEqual(unlike_names(one, other), wanted)


class CommonTest(unittest.TestCase):
    def test_common(self):
        self.assertEqual(common(ONE, OTHER), (("a", 0, 10),))
        self.assertEqual(common(ONE, ONE), ONE)
        self.assertEqual(common(ONE, ()), ())
        self.assertEqual(common((), ()), ())

    def test_same_times_with_another_name_are_not_in_common(self):
        self.assertEqual(common((("a", 0, 5),), (("b", 0, 5),)), ())

    def test_small_sheets(self):
        for one, other in itertools.product(small_sheets(), repeat=2):
            told = common(one, other)
            self.assertIs(is_sheet(told), True)
            self.assertEqual(set(told), set(one) & set(other))


class MergedTest(unittest.TestCase):
    def test_merged(self):
        one = (("a", 0, 5), ("c", 3, 9))
        other = (("a", 0, 5), ("b", 3, 9), ("d", 7, 8))
        self.assertEqual(merged(one, other), (("a", 0, 5), ("b", 3, 9), ("c", 3, 9), ("d", 7, 8)))
        self.assertEqual(merged(other, one), (("a", 0, 5), ("b", 3, 9), ("c", 3, 9), ("d", 7, 8)))

    def test_with_none_and_with_itself(self):
        self.assertEqual(merged((), ()), ())
        self.assertEqual(merged(ONE, ()), ONE)
        self.assertEqual(merged((), ONE), ONE)
        self.assertEqual(merged(ONE, ONE), ONE)

    def test_a_name_with_unlike_times(self):
        short = (("a", 0, 5),)
        for one, other in ((ONE, OTHER), (OTHER, ONE), (short, (("a", 0, 6),)), (short, (("a", 1, 5),))):
            with self.assertRaises(Taken):
                merged(one, other)

    def test_sixteen_and_seventeen_together(self):
        self.assertEqual(merged(full_sheet(LETTERS[:8]), full_sheet(LETTERS[8:16])), full_sheet(LETTERS[:16]))
        self.assertEqual(merged(full_sheet(LETTERS[:16]), full_sheet(LETTERS[3:16])), full_sheet(LETTERS[:16]))
        self.assertEqual(merged(full_sheet(LETTERS[:16]), full_sheet(LETTERS[:16])), full_sheet(LETTERS[:16]))
        full = LETTERS[:16]
        for one, other in ((LETTERS[:8], LETTERS[8:17]), (full, "z"), (full, LETTERS[3:19]), ("q", full)):
            with self.subTest(one=one, other=other), self.assertRaises(TooMany):
                merged(full_sheet(one), full_sheet(other))

    def test_taken_comes_ahead_of_too_many(self):
        with self.assertRaises(Taken):
            merged(full_sheet(LETTERS[:16]), (("a", 0, 2), ("z", 0, 1)))

    def test_small_sheets(self):
        for one, other in itertools.product(small_sheets(), repeat=2):
            if unlike_names(one, other)[2]:
                self.assertRaises(Taken, merged, one, other)
            else:
                told = merged(one, other)
                self.assertIs(is_sheet(told), True)
                self.assertEqual(set(told), set(one) | set(other))


class SharedTimeTest(unittest.TestCase):
    def test_shared_time(self):
        self.assertEqual(shared_time(ONE, OTHER), 20 + 10)
        self.assertEqual(shared_time(ONE, ONE), 20 + 450)
        self.assertEqual(shared_time((("a", 0, 5),), (("b", 3, 9),)), 2)

    def test_no_meetings(self):
        self.assertEqual(shared_time((), ()), 0)
        self.assertEqual(shared_time(ONE, ()), 0)
        self.assertEqual(shared_time((), ONE), 0)

    def test_meetings_that_touch_share_nothing(self):
        self.assertEqual(shared_time((("a", 0, 5),), (("b", 5, 9),)), 0)

    def test_each_moment_counts_once(self):
        thrice = (("a", 0, 5), ("b", 0, 5), ("c", 2, 7))
        self.assertEqual(shared_time(thrice, thrice), 7)
        self.assertEqual(shared_time(thrice, (("a", 0, 480),)), 7)

    def test_any_tuple_of_meetings(self):
        self.assertEqual(shared_time((("b", 8, 9), ("b", 2, 4), ("a", 8, 9)), (("z", 0, 9), ("a", 0, 3))), 3)

    def test_many_sheets(self):
        sheets = list(small_sheets()) + list(long_sheets())[::3]
        for one, other in itertools.product(sheets, repeat=2):
            self.assertEqual(shared_time(one, other), len(busy_moments(one) & busy_moments(other)))


class ShiftedTest(unittest.TestCase):
    def check_refused(self, sheet, by):
        with self.subTest(sheet=sheet, by=by), self.assertRaises(NoTime):
            shifted(sheet, by)

    def test_shifted(self):
        sheet = (("a", 5, 10), ("b", 7, 470))
        self.assertEqual(shifted(sheet, 3), (("a", 8, 13), ("b", 10, 473)))
        self.assertEqual(shifted(sheet, -3), (("a", 2, 7), ("b", 4, 467)))
        self.assertEqual(shifted(sheet, 0), sheet)

    def test_times_that_end_at_480_or_behind_it(self):
        self.assertEqual(shifted((("a", 0, 1), ("b", 7, 470)), 10), (("a", 10, 11), ("b", 17, 480)))
        self.check_refused((("a", 0, 1), ("b", 7, 470)), 11)
        self.check_refused((("a", 7, 470), ("b", 0, 1)), 11)
        self.check_refused(ONE, 1)
        self.check_refused(ONE, 9999)

    def test_times_that_begin_at_0_or_below(self):
        self.assertEqual(shifted((("a", 9, 10), ("b", 5, 470)), -5), (("a", 4, 5), ("b", 0, 465)))
        self.check_refused((("a", 9, 10), ("b", 5, 470)), -6)
        self.check_refused((("a", 5, 470), ("b", 9, 10)), -6)
        self.check_refused(ONE, -1)
        self.check_refused(ONE, -9999)

    def test_no_meetings(self):
        for by in (0, 1, -1, 481, -9999):
            self.assertEqual(shifted((), by), ())

    def test_truths_are_no_whole_numbers(self):
        for by in (True, False):
            self.check_refused((("a", 5, 10),), by)


class TurnedAboutTest(unittest.TestCase):
    def check_refused(self, sheet, last):
        with self.subTest(sheet=sheet, last=last), self.assertRaises(NoTime):
            turned_about(sheet, last)

    def test_turned_about(self):
        self.assertEqual(turned_about((("a", 0, 3), ("b", 5, 10)), 10), (("a", 7, 10), ("b", 0, 5)))
        self.assertEqual(turned_about((("a", 0, 3), ("b", 5, 10)), 12), (("a", 9, 12), ("b", 2, 7)))
        self.assertEqual(turned_about((("a", 0, 480),), 480), (("a", 0, 480),))

    def test_a_last_that_is_great_enough_or_one_less(self):
        self.assertEqual(turned_about((("a", 3, 4), ("b", 5, 10)), 10), (("a", 6, 7), ("b", 0, 5)))
        self.check_refused((("a", 3, 4), ("b", 5, 10)), 9)
        self.check_refused((("a", 5, 10), ("b", 3, 4)), 9)
        self.check_refused((("a", 3, 4),), 0)
        self.check_refused((("a", 3, 4),), -5)

    def test_a_last_that_is_small_enough_or_one_more(self):
        self.assertEqual(turned_about((("a", 3, 4), ("b", 5, 10)), 483), (("a", 479, 480), ("b", 473, 478)))
        self.check_refused((("a", 3, 4), ("b", 5, 10)), 484)
        self.check_refused((("a", 5, 10), ("b", 3, 4)), 484)

    def test_no_meetings(self):
        for last in (0, 10, -1, 9999):
            self.assertEqual(turned_about((), last), ())

    def test_truths_are_no_whole_numbers(self):
        self.check_refused((("a", 0, 1),), True)
        self.check_refused((("a", 0, 1),), False)
        self.assertEqual(turned_about((("a", 0, 1),), 1), (("a", 0, 1),))


class AsAWholeTest(unittest.TestCase):
    def check_alike(self, old, new):
        with self.subTest(old=old, new=new):
            self.assertIs(is_sheet(new), True)
            self.assertEqual([meeting[0] for meeting in new], [meeting[0] for meeting in old])
            self.assertEqual(most_at_once(new), most_at_once(old))
            self.assertEqual(max(columns(new).values()), max(columns(old).values()))
            self.assertEqual(worth_of(new), worth_of(old))

    def test_shifted_sheets(self):
        for sheet in long_sheets():
            for by in (1, 5, 480 - max(meeting[2] for meeting in sheet), -min(meeting[1] for meeting in sheet)):
                if max(meeting[2] for meeting in sheet) + by <= 480:
                    told = shifted(sheet, by)
                    self.check_alike(sheet, told)
                    self.assertEqual(told, tuple([(name, begin + by, end + by) for name, begin, end in sheet]))
                    self.assertEqual(busy(told), [(begin + by, end + by) for begin, end in busy(sheet)])
                    self.assertEqual(shifted(told, -by), sheet)

    def test_turned_sheets(self):
        for sheet in long_sheets():
            for last in (480, max(meeting[2] for meeting in sheet), 480 + min(meeting[1] for meeting in sheet)):
                told = turned_about(sheet, last)
                self.check_alike(sheet, told)
                self.assertEqual(told, tuple([(name, last - end, last - begin) for name, begin, end in sheet]))
                self.assertEqual(busy(told), [(last - end, last - begin) for begin, end in reversed(busy(sheet))])
                self.assertEqual(turned_about(told, last), sheet)


class ToldThingsTest(unittest.TestCase):
    def test_told_lists_are_new_ones(self):
        for sheets in ((ONE, OTHER), ((), ()), (ONE, ONE)):
            wanted = [list(names) for names in unlike_names(*sheets)]
            for names in unlike_names(*sheets):
                names.append("zz")
            self.assertEqual(list(unlike_names(*sheets)), wanted)

    def test_the_three_lists_are_three(self):
        told = unlike_names((), ())
        told[0].append("zz")
        self.assertEqual(told, (["zz"], [], []))


if __name__ == "__main__":
    unittest.main()
