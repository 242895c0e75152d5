"""Promises 4.1 to 4.3, 0.2 (c), and 0.3 as far as it speaks of days."""

import itertools
import unittest

from daysheet.columns import columns
from daysheet.days import (
    bars, day_of, day_sheet, days_of, hidden, is_long, long_ones, pieces, rows_needed, short_ones,
)
from daysheet.sheets import is_sheet

# Around the ends of days, and somewhere within them.
CUTS = (0, 1, 24, 47, 48, 49, 95, 96, 97, 143, 144, 145, 200, 240, 431, 432, 433, 479, 480)
TIMES = [(begin, end) for begin, end in itertools.combinations(CUTS, 2)]
# a, c, e and f are long: they fill day 0, days 1 and 2, day 3, and days 1 to 9.
SHEET = (
    ("a", 0, 48), ("b", 10, 20), ("c", 40, 145), ("d", 40, 60), ("e", 144, 192), ("f", 48, 480), ("g", 470, 480),
)


def moments_of(meeting):
    return range(meeting[1], meeting[2])


def some_sheets():
    # Sheets of long and short meetings, by a fixed rule, so that each run looks at the same ones.
    number = 3
    for many in (0, 1, 2, 3, 5, 8, 12, 16):
        for turn in range(12):
            sheet = []
            for letter in "abcdefghijklmnop"[:many]:
                number = (number * 1103515245 + 12345) % 2147483648
                sheet.append((letter,) + TIMES[number // 65536 % len(TIMES)])
            yield tuple(sheet)


def spans():
    return itertools.product((0, 1, 2, 5, 9, 10, 12), (0, 1, 2, 4, 10, 12))


class DaysTest(unittest.TestCase):
    def test_day_of(self):
        told = {0: 0, 1: 0, 47: 0, 48: 1, 49: 1, 95: 1, 96: 2, 432: 9, 479: 9, 480: 10, 4800: 100, -1: -1, -48: -1, -49: -2}
        for moment, day in told.items():
            with self.subTest(moment=moment):
                self.assertEqual(day_of(moment), day)

    def test_days_of(self):
        self.assertEqual(days_of(("a", 0, 1)), [0])
        self.assertEqual(days_of(("a", 47, 49)), [0, 1])
        self.assertEqual(days_of(("a", 10, 100)), [0, 1, 2])
        self.assertEqual(days_of(("a", 0, 480)), list(range(10)))
        self.assertEqual(days_of(("a", 479, 480)), [9])

    def test_a_meeting_that_ends_where_a_day_does_or_begins_where_one_does(self):
        self.assertEqual(days_of(("a", 40, 48)), [0])
        self.assertEqual(days_of(("a", 0, 48)), [0])
        self.assertEqual(days_of(("a", 0, 96)), [0, 1])
        self.assertEqual(days_of(("a", 48, 49)), [1])
        self.assertEqual(days_of(("a", 47, 48)), [0])

    def test_days_of_many_meetings(self):
        for begin, end in TIMES:
            meeting = ("a", begin, end)
            with self.subTest(meeting=meeting):
                self.assertEqual(days_of(meeting), sorted({day_of(moment) for moment in moments_of(meeting)}))


class PiecesTest(unittest.TestCase):
    def test_pieces(self):
        self.assertEqual(pieces(("a", 10, 20)), [(0, 10, 20)])
        self.assertEqual(pieces(("a", 40, 60)), [(0, 40, 48), (1, 0, 12)])
        self.assertEqual(pieces(("a", 40, 145)), [(0, 40, 48), (1, 0, 48), (2, 0, 48), (3, 0, 1)])
        self.assertEqual(pieces(("a", 470, 480)), [(9, 38, 48)])

    def test_a_meeting_that_ends_where_a_day_does(self):
        self.assertEqual(pieces(("a", 40, 48)), [(0, 40, 48)])
        self.assertEqual(pieces(("a", 0, 48)), [(0, 0, 48)])
        self.assertEqual(pieces(("a", 48, 96)), [(1, 0, 48)])
        self.assertEqual(pieces(("a", 48, 50)), [(1, 0, 2)])

    def test_pieces_are_together_as_long_as_the_meeting(self):
        for begin, end in TIMES:
            meeting = ("a", begin, end)
            told = pieces(meeting)
            with self.subTest(meeting=meeting):
                self.assertEqual([row[0] for row in told], days_of(meeting))
                self.assertEqual(sum(row[2] - row[1] for row in told), end - begin)
                covered = [48 * row[0] + place for row in told for place in range(row[1], row[2])]
                self.assertEqual(covered, list(moments_of(meeting)))
                self.assertTrue(all(0 <= row[1] < row[2] <= 48 for row in told))


class LongTest(unittest.TestCase):
    def test_is_long(self):
        for begin, end in ((0, 48), (48, 96), (0, 49), (47, 96), (47, 97), (1, 96), (0, 480), (432, 480), (5, 400)):
            with self.subTest(begin=begin, end=end):
                self.assertIs(is_long(("a", begin, end)), True)

    def test_is_not_long(self):
        # Also such as are longer than a day, but fill none wholly.
        for begin, end in ((0, 47), (1, 48), (1, 49), (1, 95), (47, 95), (24, 72), (0, 1), (433, 480), (49, 143)):
            with self.subTest(begin=begin, end=end):
                self.assertIs(is_long(("a", begin, end)), False)

    def test_many_meetings(self):
        for begin, end in TIMES:
            filled = any(begin <= 48 * day and 48 * day + 48 <= end for day in range(10))
            with self.subTest(begin=begin, end=end):
                self.assertIs(is_long(("a", begin, end)), filled)

    def test_long_ones_and_short_ones(self):
        a, b, c, d, e, f, g = SHEET
        self.assertEqual(long_ones(SHEET), (a, c, e, f))
        self.assertEqual(short_ones(SHEET), (b, d, g))
        self.assertEqual(long_ones(()), ())
        self.assertEqual(short_ones(()), ())

    def test_each_meeting_is_either_long_or_short(self):
        for sheet in some_sheets():
            with self.subTest(sheet=sheet):
                self.assertEqual(sorted(long_ones(sheet) + short_ones(sheet)), list(sheet))
                self.assertTrue(all(is_long(meeting) for meeting in long_ones(sheet)))
                self.assertFalse(any(is_long(meeting) for meeting in short_ones(sheet)))
                self.assertIs(is_sheet(long_ones(sheet)), True)
                self.assertIs(is_sheet(short_ones(sheet)), True)


class DaySheetTest(unittest.TestCase):
    def test_pieces_of_those_that_are_not_long(self):
        self.assertEqual(day_sheet(SHEET, 0), (("b", 10, 20), ("d", 40, 48)))
        self.assertEqual(day_sheet(SHEET, 1), (("d", 0, 12),))
        self.assertEqual(day_sheet(SHEET, 9), (("g", 38, 48),))

    def test_days_on_which_nothing_goes_on(self):
        for day in (2, 3, 8, 10, 11, 100):
            self.assertEqual(day_sheet(SHEET, day), ())
        self.assertEqual(day_sheet((), 0), ())
        self.assertEqual(day_sheet((("a", 40, 48),), 1), ())

    def test_many_sheets(self):
        for sheet in some_sheets():
            for day in range(12):
                wanted = []
                for name, begin, end in short_ones(sheet):
                    places = [moment - 48 * day for moment in range(begin, end) if moment // 48 == day]
                    if places:
                        wanted.append((name, places[0], places[-1] + 1))
                with self.subTest(sheet=sheet, day=day):
                    self.assertEqual(day_sheet(sheet, day), tuple(wanted))
                    self.assertIs(is_sheet(day_sheet(sheet, day)), True)


class BarsTest(unittest.TestCase):
    def test_all_days(self):
        wanted = [("a", 1, 0, 1), ("c", 0, 0, 4), ("e", 2, 3, 4), ("f", 1, 1, 10)]
        self.assertEqual(bars(SHEET, 0, 10), wanted)
        self.assertEqual(bars(SHEET, 0, 20), wanted)

    def test_days_are_counted_from_the_first(self):
        self.assertEqual(bars(SHEET, 1, 2), [("c", 0, 0, 2), ("f", 1, 0, 2)])
        self.assertEqual(bars(SHEET, 3, 2), [("c", 1, 0, 1), ("e", 2, 0, 1), ("f", 0, 0, 2)])
        self.assertEqual(bars(SHEET, 4, 3), [("f", 0, 0, 3)])
        self.assertEqual(bars(SHEET, 9, 5), [("f", 0, 0, 1)])

    def test_rows_follow_the_days_and_not_the_moments(self):
        # x ends within the day on which y begins, so both are on it.
        sheet = (("x", 0, 100), ("y", 101, 200), ("z", 192, 240))
        self.assertEqual(bars(sheet, 0, 10), [("x", 0, 0, 3), ("y", 1, 2, 5), ("z", 0, 4, 5)])

    def test_a_meeting_that_ends_where_a_day_does(self):
        sheet = (("x", 0, 48), ("y", 48, 96))
        self.assertEqual(bars(sheet, 0, 2), [("x", 0, 0, 1), ("y", 0, 1, 2)])
        self.assertEqual(bars(sheet, 1, 1), [("y", 0, 0, 1)])
        self.assertEqual(bars(sheet, 0, 1), [("x", 0, 0, 1)])

    def test_nothing_to_tell(self):
        self.assertEqual(bars((), 0, 10), [])
        self.assertEqual(bars(SHEET, 0, 0), [])
        self.assertEqual(bars(SHEET, 10, 5), [])
        self.assertEqual(bars(SHEET, 5, 0), [])
        self.assertEqual(bars((("b", 10, 20),), 0, 10), [])

    def test_many_sheets(self):
        for sheet in some_sheets():
            for first, many in spans():
                by_days = []
                for meeting in long_ones(sheet):
                    days = [day - first for day in range(first, first + many) if day in days_of(meeting)]
                    if days:
                        by_days.append((meeting[0], min(days), max(days) + 1))
                rows = columns(tuple(by_days))
                with self.subTest(sheet=sheet, first=first, many=many):
                    wanted = [(name, rows[name], begin, end) for name, begin, end in by_days]
                    self.assertEqual(bars(sheet, first, many), wanted)


class RowsNeededTest(unittest.TestCase):
    def test_rows_needed(self):
        self.assertEqual(rows_needed(SHEET, 0, 10), 3)
        self.assertEqual(rows_needed(SHEET, 0, 3), 2)
        self.assertEqual(rows_needed(SHEET, 3, 1), 3)
        self.assertEqual(rows_needed(SHEET, 4, 6), 1)

    def test_nothing_to_tell(self):
        self.assertEqual(rows_needed((), 0, 10), 0)
        self.assertEqual(rows_needed(SHEET, 0, 0), 0)
        self.assertEqual(rows_needed(SHEET, 10, 4), 0)
        self.assertEqual(rows_needed((("b", 10, 20), ("c", 10, 20)), 0, 10), 0)

    def test_rows_are_as_few_as_can_be(self):
        for sheet in some_sheets():
            for first, many in spans():
                told = bars(sheet, first, many)
                rows = {row for name, row, begin, end in told}
                on_days = [[bar for bar in told if bar[2] <= day < bar[3]] for day in range(many)]
                with self.subTest(sheet=sheet, first=first, many=many):
                    self.assertEqual(rows, set(range(rows_needed(sheet, first, many))))
                    self.assertEqual(rows_needed(sheet, first, many), max([len(some) for some in on_days], default=0))
                    for some in on_days:
                        self.assertEqual(len({bar[1] for bar in some}), len(some))


class HiddenTest(unittest.TestCase):
    def test_hidden(self):
        self.assertEqual(hidden(SHEET, 0, 10, 1), [1, 1, 1, 2, 1, 1, 1, 1, 1, 1])
        self.assertEqual(hidden(SHEET, 0, 5, 2), [0, 0, 0, 1, 0])
        self.assertEqual(hidden(SHEET, 0, 5, 3), [0] * 5)
        self.assertEqual(hidden(SHEET, 3, 2, 1), [2, 0])

    def test_no_rows_hide_all(self):
        self.assertEqual(hidden(SHEET, 0, 12, 0), [2, 2, 2, 3, 1, 1, 1, 1, 1, 1, 0, 0])

    def test_days_on_which_nothing_goes_on(self):
        self.assertEqual(hidden((), 0, 3, 0), [0, 0, 0])
        self.assertEqual(hidden(SHEET, 10, 2, 0), [0, 0])
        self.assertEqual(hidden((("b", 10, 20),), 0, 2, 0), [0, 0])

    def test_no_days(self):
        self.assertEqual(hidden(SHEET, 0, 0, 0), [])
        self.assertEqual(hidden((), 0, 0, 2), [])

    def test_many_sheets(self):
        for sheet in some_sheets():
            for first, many in spans():
                told = bars(sheet, first, many)
                for rows in (0, 1, 2, 5, 17):
                    wanted = [0] * many
                    for name, row, begin, end in told:
                        for day in range(begin, end):
                            wanted[day] += row >= rows
                    with self.subTest(sheet=sheet, first=first, many=many, rows=rows):
                        self.assertEqual(hidden(sheet, first, many, rows), wanted)


class AnyTupleOfMeetingsTest(unittest.TestCase):
    def test_names_may_fall_or_come_twice(self):
        loose = tuple([("zz", begin, end) for name, begin, end in reversed(SHEET)])
        for first, many in spans():
            self.assertEqual(rows_needed(loose, first, many), rows_needed(SHEET, first, many))
            for rows in (0, 3):
                self.assertEqual(hidden(loose, first, many, rows), hidden(SHEET, first, many, rows))

    def test_one_meeting_many_times(self):
        loose = (("a", 48, 96),) * 5
        self.assertEqual(rows_needed(loose, 0, 3), 5)
        self.assertEqual(hidden(loose, 0, 3, 0), [0, 5, 0])
        self.assertEqual(hidden(loose, 0, 3, 3), [0, 2, 0])


class ToldThingsTest(unittest.TestCase):
    def test_told_lists_are_new_ones(self):
        asks = (
            lambda: days_of(SHEET[2]), lambda: pieces(SHEET[2]), lambda: bars(SHEET, 0, 10), lambda: bars((), 0, 10),
            lambda: hidden(SHEET, 0, 10, 1), lambda: hidden((), 0, 0, 1),
        )
        for ask in asks:
            first = ask()
            self.assertIsInstance(first, list)
            wanted = list(first)
            first.append("zz")
            self.assertEqual(ask(), wanted)

    def test_rows_are_tuples(self):
        for row in pieces(SHEET[2]) + bars(SHEET, 0, 10) + list(day_sheet(SHEET, 0)):
            self.assertIsInstance(row, tuple)


if __name__ == "__main__":
    unittest.main()
