"""Promises 9.1 to 9.4, 0.2 (h), and 0.3 as far as it speaks of series."""

import itertools
import unittest

from daysheet.errors import NoTime, SheetError
from daysheet.series import as_sheet, first_clash, goes_with_itself, is_series, parted, times_of, without_time
from daysheet.sheets import is_sheet

# Five meetings of 5 moments, of which those of numbers 1 and 3 are left out.
SERIES = ("week", 10, 5, 20, 5, (1, 3))
PLAIN = ("a", 0, 3, 10, 4, ())
NO_SERIES = (
    # Names that are none.
    ("", 0, 1, 1, 1, ()), ("abcde", 0, 1, 1, 1, ()), ("A", 0, 1, 1, 1, ()), ("a1", 0, 1, 1, 1, ()),
    ("\xe4", 0, 1, 1, 1, ()), (None, 0, 1, 1, 1, ()), (1, 0, 1, 1, 1, ()), (["a"], 0, 1, 1, 1, ()),
    (("a",), 0, 1, 1, 1, ()),
    # Numbers one beyond what they may be.
    ("a", -1, 1, 1, 1, ()), ("a", 0, 0, 1, 1, ()), ("a", 0, -1, 1, 1, ()), ("a", 0, 1, 0, 1, ()), ("a", 0, 1, 0, 2, ()),
    ("a", 0, 1, -1, 1, ()), ("a", 5, 1, -1, 3, ()), ("a", 0, 1, 1, 0, ()), ("a", 0, 1, 1, -1, ()),
    ("a", 0, 1, 1, 11, ()),
    # A last meeting that would end behind 480.
    ("a", 480, 1, 1, 1, ()), ("a", 0, 481, 1, 1, ()), ("a", 0, 1, 480, 2, ()), ("a", 31, 90, 40, 10, ()),
    # It would, too, though it is left out.
    ("a", 0, 1, 480, 2, (1,)), ("a", 31, 90, 40, 10, (9,)), ("a", 0, 481, 1, 1, (0,)),
    # An out that is not rising, twice the same, at many or behind it, below 0.
    ("a", 0, 1, 5, 3, (1, 0)), ("a", 0, 1, 5, 3, (0, 2, 1)), ("a", 0, 1, 5, 3, (1, 1)), ("a", 0, 1, 5, 3, (0, 1, 1)),
    ("a", 0, 1, 5, 3, (3,)), ("a", 0, 1, 5, 3, (0, 3)), ("a", 0, 1, 5, 3, (99,)), ("a", 0, 1, 5, 3, (-1,)),
    ("a", 0, 1, 5, 3, (-1, 0)), ("a", 0, 1, 1, 1, (1,)),
    # Truths in the stead of numbers.
    ("a", True, 1, 1, 1, ()), ("a", False, 1, 1, 1, ()), ("a", 0, True, 1, 1, ()), ("a", 0, 1, True, 1, ()),
    ("a", 0, 1, 1, True, ()), ("a", 0, 1, 1, 2, (True,)), ("a", 0, 1, 1, 2, (False,)), ("a", 0, 1, 1, 2, (False, 1)),
    # Other things in the stead of numbers.
    ("a", None, 1, 1, 1, ()), ("a", "0", 1, 1, 1, ()), ("a", 0, "1", 1, 1, ()), ("a", 0, 1, (1,), 1, ()),
    ("a", 0, 1, 1, [1], ()), ("a", 0, 1, 1, None, ()), ("a", 0, 1, 1, 2, (None,)), ("a", 0, 1, 1, 2, ("0",)),
    ("a", 0, 1, 1, 2, ((0,),)), ("a", 0, 1, 1, 2, ([0],)), ("a", 0, 1, 1, 2, (0, "1")), ("a", 0, 1, 1, 2, (None, 1)),
    # Lists in the stead of tuples, and no tuple for out.
    ["a", 0, 1, 1, 1, ()], ("a", 0, 1, 1, 1, []), ("a", 0, 1, 1, 2, [0]), ("a", 0, 1, 1, 2, 0), ("a", 0, 1, 1, 2, None),
    ("a", 0, 1, 1, 2, ""), ("a", 0, 1, 1, 2, False), list(SERIES),
    # Of another length.
    ("a", 0, 1, 1, 1), ("a", 0, 1, 1, 1, (), ()), ("a",), (), (SERIES,), ("a", 0, 1), (("a", 0, 1),),
    # Other things.
    None, True, False, 0, 1, -1, "", "a", "abcdef", [], [[]], [()], [[[[[1]]]]], ((((("a",),),),),), (None,) * 6,
    ((),) * 6, ([],) * 6, ("a",) * 6, (1,) * 6, (True,) * 6,
)


def all_outs(many):
    for count in range(many + 1):
        yield from itertools.combinations(range(many), count)


def small_series():
    for begin, size, every, many in itertools.product((0, 3, 7), (1, 2, 5), (1, 2, 3, 6), (1, 2, 3, 4)):
        for out in all_outs(many):
            yield ("abc", begin, size, every, many, out)


def times_plainly(series):
    name, begin, size, every, many, out = series
    return [(begin + every * k, begin + every * k + size) for k in range(many) if k not in out]


def moments_of(series):
    return {moment for begin, end in times_plainly(series) for moment in range(begin, end)}


class IsSeriesTest(unittest.TestCase):
    def check(self, answer, thing):
        with self.subTest(thing=thing):
            self.assertIs(is_series(thing), answer)

    def test_series(self):
        for thing in (SERIES, PLAIN, ("abcd", 0, 1, 1, 1, ()), ("z", 479, 1, 1, 1, (0,)), ("a", 3, 9, 5, 3, (0, 1, 2))):
            self.check(True, thing)
        for thing in small_series():
            self.check(True, thing)

    def test_a_many_of_1_and_of_10(self):
        self.check(True, ("a", 0, 1, 999, 1, ()))
        self.check(True, ("a", 0, 1, 1, 10, ()))
        self.check(True, ("a", 0, 1, 1, 10, tuple(range(10))))
        self.check(False, ("a", 0, 1, 1, 11, ()))
        self.check(False, ("a", 0, 1, 1, 0, ()))

    def test_a_last_meeting_that_ends_at_480(self):
        self.check(True, ("a", 0, 480, 1, 1, ()))
        self.check(True, ("a", 479, 1, 1, 1, ()))
        self.check(True, ("a", 0, 1, 479, 2, ()))
        self.check(True, ("a", 30, 90, 40, 10, ()))
        self.check(True, ("a", 30, 90, 40, 10, (9,)))
        # With one more moment it would end behind 480.
        for more in ((1, 0, 0), (0, 1, 0), (0, 0, 1)):
            for out in ((), (9,)):
                self.check(False, ("a", 30 + more[0], 90 + more[1], 40 + more[2], 10, out))

    def test_no_series(self):
        for thing in NO_SERIES:
            self.check(False, thing)


class TimesOfTest(unittest.TestCase):
    def test_times_of(self):
        self.assertEqual(times_of(SERIES), [(10, 15), (50, 55), (90, 95)])
        self.assertEqual(times_of(PLAIN), [(0, 3), (10, 13), (20, 23), (30, 33)])
        self.assertEqual(times_of(("a", 0, 480, 1, 1, ())), [(0, 480)])
        self.assertEqual(times_of(("a", 5, 4, 1, 3, ())), [(5, 9), (6, 10), (7, 11)])

    def test_all_left_out(self):
        self.assertEqual(times_of(("a", 0, 1, 1, 3, (0, 1, 2))), [])

    def test_small_series(self):
        for series in small_series():
            with self.subTest(series=series):
                self.assertEqual(times_of(series), times_plainly(series))


class AsSheetTest(unittest.TestCase):
    def test_as_sheet(self):
        self.assertEqual(as_sheet(SERIES), (("wa", 10, 15), ("wc", 50, 55), ("we", 90, 95)))
        self.assertEqual(as_sheet(("b", 0, 1, 1, 1, ())), (("ba", 0, 1),))
        self.assertEqual(as_sheet(("a", 0, 1, 1, 3, (0, 1, 2))), ())

    def test_ten_letters(self):
        told = as_sheet(("xyz", 0, 2, 3, 10, ()))
        self.assertEqual([meeting[0] for meeting in told], ["x" + letter for letter in "abcdefghij"])

    def test_small_series_are_sheets(self):
        for series in small_series():
            with self.subTest(series=series):
                told = as_sheet(series)
                self.assertIs(is_sheet(told), True)
                self.assertEqual([meeting[1:] for meeting in told], times_plainly(series))
                numbers = [k for k in range(series[4]) if k not in series[5]]
                self.assertEqual([meeting[0] for meeting in told], ["a" + "abcd"[k] for k in numbers])


class WithoutTimeTest(unittest.TestCase):
    def test_without_time(self):
        self.assertEqual(without_time(PLAIN, 0), ("a", 0, 3, 10, 4, (0,)))
        self.assertEqual(without_time(PLAIN, 3), ("a", 0, 3, 10, 4, (3,)))
        self.assertEqual(without_time(SERIES, 2), ("week", 10, 5, 20, 5, (1, 2, 3)))
        self.assertEqual(without_time(SERIES, 0), ("week", 10, 5, 20, 5, (0, 1, 3)))
        self.assertEqual(without_time(SERIES, 4), ("week", 10, 5, 20, 5, (1, 3, 4)))
        self.assertEqual(without_time(("a", 0, 1, 1, 1, ()), 0), ("a", 0, 1, 1, 1, (0,)))

    def check_refused(self, series, number):
        with self.subTest(series=series, number=number), self.assertRaises(NoTime):
            without_time(series, number)

    def test_no_such_number(self):
        for number in (-1, -4, 4, 5, 99):
            self.check_refused(PLAIN, number)

    def test_left_out_already(self):
        for number in (1, 3):
            self.check_refused(SERIES, number)
        self.check_refused(("a", 0, 1, 1, 1, (0,)), 0)

    def test_truths_are_no_numbers(self):
        for number in (True, False):
            self.check_refused(PLAIN, number)

    def test_small_series(self):
        for series in small_series():
            for number in range(-1, 6):
                if number in range(series[4]) and number not in series[5]:
                    told = without_time(series, number)
                    with self.subTest(series=series, number=number):
                        self.assertIs(is_series(told), True)
                        self.assertEqual(told[:5], series[:5])
                        self.assertEqual(set(told[5]), set(series[5]) | {number})
                else:
                    self.check_refused(series, number)


class PartedTest(unittest.TestCase):
    def test_within(self):
        self.assertEqual(parted(SERIES, 2), (("week", 10, 5, 20, 2, (1,)), ("week", 50, 5, 20, 3, (1,))))
        self.assertEqual(parted(SERIES, 1), (("week", 10, 5, 20, 1, ()), ("week", 30, 5, 20, 4, (0, 2))))
        self.assertEqual(parted(SERIES, 4), (("week", 10, 5, 20, 4, (1, 3)), ("week", 90, 5, 20, 1, ())))

    def test_at_0_and_below(self):
        for number in (0, -1, -99):
            self.assertEqual(parted(SERIES, number), (None, SERIES))

    def test_at_many_and_behind(self):
        for number in (5, 6, 99):
            self.assertEqual(parted(SERIES, number), (SERIES, None))

    def test_a_part_of_which_all_are_left_out_still_has_numbers(self):
        self.assertEqual(parted(("a", 0, 1, 5, 2, (0,)), 1), (("a", 0, 1, 5, 1, (0,)), ("a", 5, 1, 5, 1, ())))
        self.assertEqual(parted(("a", 0, 1, 5, 2, (0, 1)), 1), (("a", 0, 1, 5, 1, (0,)), ("a", 5, 1, 5, 1, (0,))))

    def test_both_parts_together_have_the_same_meetings(self):
        for series in small_series():
            for number in range(-1, 6):
                told = parted(series, number)
                parts = [part for part in told if part is not None]
                with self.subTest(series=series, number=number):
                    self.assertIsInstance(told, tuple)
                    self.assertEqual(len(told), 2)
                    self.assertTrue(all(is_series(part) for part in parts))
                    self.assertEqual(sum([times_of(part) for part in parts], []), times_plainly(series))
                    self.assertEqual(sum(part[4] for part in parts), series[4])
                    self.assertEqual([part[0] for part in parts], ["abc"] * len(parts))
                    self.assertEqual(told[0][4] if told[0] else 0, min(max(number, 0), series[4]))


class FirstClashTest(unittest.TestCase):
    def check(self, moment, one, other):
        with self.subTest(one=one, other=other):
            self.assertEqual(first_clash(one, other), moment)
            self.assertEqual(first_clash(other, one), moment)

    def test_series_that_never_clash(self):
        self.check(None, PLAIN, ("b", 3, 7, 10, 4, ()))
        self.check(None, PLAIN, ("b", 100, 5, 7, 9, ()))
        self.check(None, PLAIN, ("b", 5, 1, 10, 4, ()))

    def test_clash_at_their_first_moments(self):
        self.check(0, PLAIN, PLAIN)
        self.check(0, PLAIN, ("b", 0, 1, 1, 1, ()))
        self.check(10, SERIES, ("b", 10, 1, 1, 1, ()))

    def test_a_later_clash(self):
        self.check(2, PLAIN, ("b", 2, 5, 10, 4, ()))
        self.check(20, ("a", 0, 5, 20, 5, ()), ("b", 6, 4, 7, 5, ()))
        self.check(14, SERIES, ("b", 14, 90, 1, 1, ()))

    def test_only_by_one_that_is_left_out(self):
        self.check(30, ("week", 10, 5, 20, 5, ()), ("b", 30, 5, 1, 1, ()))
        self.check(None, SERIES, ("b", 30, 5, 1, 1, ()))
        self.check(50, SERIES, ("b", 30, 5, 20, 3, ()))
        self.check(90, SERIES, ("b", 30, 5, 20, 4, (1,)))

    def test_all_left_out(self):
        self.check(None, PLAIN, ("b", 0, 3, 10, 2, (0, 1)))

    def test_the_first_moment_where_meetings_of_one_series_overlap(self):
        self.check(4, ("a", 0, 9, 2, 4, ()), ("b", 4, 1, 1, 2, ()))

    def test_small_series(self):
        some = list(small_series())[::7]
        moments = dict([(series, moments_of(series)) for series in some])
        for one, other in itertools.product(some, repeat=2):
            self.assertEqual(first_clash(one, other), min(moments[one] & moments[other], default=None), (one, other))


class GoesWithItselfTest(unittest.TestCase):
    def check(self, answer, series):
        with self.subTest(series=series):
            self.assertIs(goes_with_itself(series), answer)

    def test_goes_with_itself(self):
        self.check(True, PLAIN)
        self.check(True, ("a", 0, 5, 5, 4, ()))
        self.check(False, ("a", 0, 6, 5, 4, ()))
        self.check(True, ("a", 0, 100, 1, 1, ()))

    def test_those_that_are_left_out_do_not_overlap(self):
        self.check(True, ("a", 0, 6, 5, 3, (1,)))
        self.check(False, ("a", 0, 11, 5, 3, (1,)))
        self.check(True, ("a", 0, 6, 5, 3, (0, 1, 2)))
        self.check(False, ("a", 0, 6, 5, 4, (0, 3)))

    def test_small_series(self):
        for series in small_series():
            times = times_plainly(series)
            self.check(sum(end - begin for begin, end in times) == len(moments_of(series)), series)


class ToldThingsTest(unittest.TestCase):
    def test_told_lists_are_new_ones_of_tuples(self):
        for series in (SERIES, ("a", 0, 1, 1, 1, (0,))):
            wanted = list(times_of(series))
            times_of(series).append("zz")
            self.assertEqual(times_of(series), wanted)
            self.assertTrue(all(isinstance(time, tuple) for time in wanted))

    def test_no_time_stands_under_sheet_error(self):
        with self.assertRaises(SheetError):
            without_time(SERIES, 1)


if __name__ == "__main__":
    unittest.main()
