"""Promises 6.1 to 6.3, 0.2 (e), and 0.3 as far as it speaks of gaps."""

import itertools
import unittest

from daysheet.gaps import best_time, busy_at, common_gaps, first_time, gaps, long_gaps
from daysheet.loads import busy
from daysheet.sheets import overlap

# Free are 20 to 30 within it, and what lies behind 40.
SHEET = (("a", 0, 10), ("bb", 5, 15), ("c", 10, 20), ("d", 30, 40))
TOUCHING = (("a", 5, 10), ("b", 10, 15))
STRETCHES = [(begin, end) for begin in range(-1, 8) for end in range(begin, 8)]
SHORT_TIMES = [(begin, end) for begin in range(5) for end in range(begin + 1, 6)]


def short_sheets(many):
    for times in itertools.product(SHORT_TIMES, repeat=many):
        yield tuple([(name,) + time for name, time in zip("abc", times)])


def sheets_together():
    # Lists of no, one, two and three sheets, the longer ones picked by fixed steps.
    yield []
    yield [()]
    small = [sheet for many in range(3) for sheet in short_sheets(many)]
    for sheet in small:
        yield [sheet]
    for one, other in list(itertools.product(small, repeat=2))[::461]:
        yield [one, other]
    for number in range(0, 4000, 37):
        yield [small[number * step % len(small)] for step in (1, 7, 31)]


def is_free(sheets, moment):
    return not any(begin <= moment < end for sheet in sheets for name, begin, end in sheet)


def free_plainly(sheets, begin, end):
    told = []
    for moment in range(begin, end):
        if is_free(sheets, moment):
            if told and told[-1][1] == moment:
                told[-1] = (told[-1][0], moment + 1)
            else:
                told.append((moment, moment + 1))
    return told


def busy_plainly(sheets, begin, size):
    return sum(any(not is_free([sheet], moment) for moment in range(begin, begin + size)) for sheet in sheets)


class GapsTest(unittest.TestCase):
    def test_stretches_between_meetings(self):
        self.assertEqual(gaps(SHEET, 0, 60), [(20, 30), (40, 60)])
        self.assertEqual(gaps(SHEET, -5, 60), [(-5, 0), (20, 30), (40, 60)])
        self.assertEqual(gaps(SHEET, 0, 480), [(20, 30), (40, 480)])
        self.assertEqual(gaps(SHEET, 0, 40), [(20, 30)])

    def test_no_meetings(self):
        self.assertEqual(gaps((), 0, 480), [(0, 480)])
        self.assertEqual(gaps((), 7, 8), [(7, 8)])
        self.assertEqual(gaps((), -3, 500), [(-3, 500)])

    def test_an_empty_stretch(self):
        for moment in (-1, 0, 12, 20, 25, 30, 40, 100, 480):
            self.assertEqual(gaps(SHEET, moment, moment), [])
            self.assertEqual(gaps((), moment, moment), [])

    def test_a_stretch_that_begins_or_ends_within_a_meeting(self):
        self.assertEqual(gaps(SHEET, 12, 35), [(20, 30)])
        self.assertEqual(gaps(SHEET, 12, 18), [])
        self.assertEqual(gaps(SHEET, 35, 50), [(40, 50)])
        self.assertEqual(gaps(SHEET, 25, 35), [(25, 30)])

    def test_a_stretch_that_begins_or_ends_within_a_gap(self):
        self.assertEqual(gaps(SHEET, 22, 28), [(22, 28)])
        self.assertEqual(gaps(SHEET, 20, 30), [(20, 30)])
        self.assertEqual(gaps(SHEET, 19, 31), [(20, 30)])
        self.assertEqual(gaps(SHEET, 29, 30), [(29, 30)])
        self.assertEqual(gaps(SHEET, 30, 40), [])
        self.assertEqual(gaps(SHEET, 100, 110), [(100, 110)])
        self.assertEqual(gaps(SHEET, -9, -2), [(-9, -2)])

    def test_no_gap_between_meetings_that_touch(self):
        self.assertEqual(gaps(TOUCHING, 0, 20), [(0, 5), (15, 20)])
        self.assertEqual(gaps(TOUCHING, 5, 15), [])

    def test_a_short_meeting_within_a_long_one(self):
        self.assertEqual(gaps((("a", 0, 30), ("b", 5, 6), ("c", 31, 32)), 0, 40), [(30, 31), (32, 40)])

    def test_any_tuple_of_meetings(self):
        self.assertEqual(gaps((("b", 8, 9), ("a", 2, 3), ("b", 8, 9), ("b", 5, 6)), 0, 10),
                         [(0, 2), (3, 5), (6, 8), (9, 10)])
        self.assertEqual(gaps((("a", 3, 4),) * 20, 0, 6), [(0, 3), (4, 6)])

    def test_short_sheets(self):
        sheets = [sheet for many in range(4) for sheet in short_sheets(many)]
        for sheet in sheets[:300] + sheets[300::23]:
            for begin, end in STRETCHES:
                with self.subTest(sheet=sheet, begin=begin, end=end):
                    self.assertEqual(gaps(sheet, begin, end), free_plainly([sheet], begin, end))

    def test_free_stretches_and_busy_ones_fill_what_is_looked_at(self):
        for sheet in short_sheets(2):
            for begin, end in STRETCHES:
                going = [(max(first, begin), min(last, end)) for first, last in busy(sheet)]
                rows = sorted([row for row in going if row[0] < row[1]] + gaps(sheet, begin, end))
                with self.subTest(sheet=sheet, begin=begin, end=end):
                    if begin < end:
                        self.assertEqual([row[0] for row in rows] + [end], [begin] + [row[1] for row in rows])
                    else:
                        self.assertEqual(rows, [])


class LongGapsTest(unittest.TestCase):
    def test_no_shorter_than_least(self):
        self.assertEqual(long_gaps(SHEET, -5, 48, 5), [(-5, 0), (20, 30), (40, 48)])
        self.assertEqual(long_gaps(SHEET, -5, 48, 6), [(20, 30), (40, 48)])
        self.assertEqual(long_gaps(SHEET, -5, 48, 9), [(20, 30)])
        self.assertEqual(long_gaps(SHEET, -5, 48, 10), [(20, 30)])

    def test_a_least_of_0_or_1_lets_all_by(self):
        for least in (0, 1):
            self.assertEqual(long_gaps(SHEET, 0, 60, least), [(20, 30), (40, 60)])
            self.assertEqual(long_gaps(SHEET, 12, 12, least), [])
            self.assertEqual(long_gaps((), 0, 3, least), [(0, 3)])

    def test_a_least_longer_than_every_gap(self):
        self.assertEqual(long_gaps(SHEET, -5, 48, 11), [])
        self.assertEqual(long_gaps((), 0, 480, 481), [])
        self.assertEqual(long_gaps((), 0, 480, 480), [(0, 480)])

    def test_what_is_cut_off_does_not_count(self):
        self.assertEqual(long_gaps(SHEET, 21, 60, 10), [(40, 60)])
        self.assertEqual(long_gaps(SHEET, 0, 49, 10), [(20, 30)])

    def test_short_sheets(self):
        for sheet in short_sheets(2):
            for least in range(7):
                wanted = [row for row in free_plainly([sheet], 0, 7) if row[1] - row[0] >= least]
                with self.subTest(sheet=sheet, least=least):
                    self.assertEqual(long_gaps(sheet, 0, 7, least), wanted)


class CommonGapsTest(unittest.TestCase):
    def test_where_none_has_a_meeting(self):
        self.assertEqual(common_gaps([SHEET, (("a", 22, 24), ("b", 26, 32))], 0, 60), [(20, 22), (24, 26), (40, 60)])
        self.assertEqual(common_gaps([(("a", 0, 5),), (("a", 5, 9),)], 0, 10), [(9, 10)])
        self.assertEqual(common_gaps([SHEET], 0, 60), gaps(SHEET, 0, 60))
        self.assertEqual(common_gaps([SHEET, SHEET], 0, 60), gaps(SHEET, 0, 60))

    def test_no_sheets_and_sheets_without_meetings(self):
        for sheets in ([], [()], [(), ()]):
            self.assertEqual(common_gaps(sheets, 0, 480), [(0, 480)])
            self.assertEqual(common_gaps(sheets, 3, 3), [])

    def test_more_than_sixteen_meetings_in_all(self):
        sheets = [tuple([(letter, 10 * k, 10 * k + 9) for k, letter in enumerate("abcdefghijklmnop")])] * 3
        self.assertEqual(common_gaps(sheets, 0, 160), [(10 * k + 9, 10 * k + 10) for k in range(16)])

    def test_many_sheets(self):
        for sheets in sheets_together():
            for begin, end in ((-1, 7), (0, 6), (2, 5), (3, 3)):
                with self.subTest(sheets=sheets, begin=begin, end=end):
                    self.assertEqual(common_gaps(sheets, begin, end), free_plainly(sheets, begin, end))


class FirstTimeTest(unittest.TestCase):
    def test_the_first_gap_that_is_long_enough(self):
        sheets = [SHEET, (("a", 22, 24),)]
        self.assertEqual(first_time(sheets, 0, 60, 1), 20)
        self.assertEqual(first_time(sheets, 0, 60, 2), 20)
        self.assertEqual(first_time(sheets, 0, 60, 3), 24)
        self.assertEqual(first_time(sheets, 0, 60, 6), 24)
        self.assertEqual(first_time(sheets, 0, 60, 7), 40)

    def test_a_size_that_just_fits_and_one_that_is_one_too_long(self):
        self.assertEqual(first_time([SHEET], 0, 60, 20), 40)
        self.assertIsNone(first_time([SHEET], 0, 60, 21))
        self.assertEqual(first_time([SHEET], 20, 30, 10), 20)
        self.assertIsNone(first_time([SHEET], 20, 30, 11))
        self.assertIsNone(first_time([SHEET], 21, 30, 10))
        self.assertEqual(first_time([], 5, 9, 4), 5)
        self.assertIsNone(first_time([], 5, 9, 5))

    def test_a_stretch_that_is_empty_or_wholly_busy(self):
        self.assertIsNone(first_time([SHEET], 25, 25, 1))
        self.assertIsNone(first_time([], 25, 25, 1))
        self.assertIsNone(first_time([SHEET], 0, 20, 1))

    def test_a_stretch_that_begins_within_a_meeting_or_a_gap(self):
        self.assertEqual(first_time([SHEET], 12, 60, 5), 20)
        self.assertEqual(first_time([SHEET], 25, 60, 5), 25)
        self.assertEqual(first_time([SHEET], 26, 60, 5), 40)
        self.assertEqual(first_time([SHEET], -2, 60, 2), -2)

    def test_many_sheets(self):
        for sheets in sheets_together():
            for begin, end, size in ((0, 7, 1), (0, 7, 2), (-1, 6, 3), (2, 6, 1), (3, 3, 1), (1, 4, 3), (0, 7, 9)):
                fitting = [
                    moment for moment in range(begin, end - size + 1)
                    if all(is_free(sheets, moment + k) for k in range(size))
                ]
                with self.subTest(sheets=sheets, begin=begin, end=end, size=size):
                    self.assertEqual(first_time(sheets, begin, end, size), fitting[0] if fitting else None)

    def test_what_is_put_there_overlaps_nothing(self):
        for sheets in sheets_together():
            for size in (1, 2, 5):
                moment = first_time(sheets, 0, 11, size)
                with self.subTest(sheets=sheets, size=size):
                    new = ("z", moment, moment + size)
                    self.assertFalse(any(overlap(new, meeting) for sheet in sheets for meeting in sheet))


class BusyAtTest(unittest.TestCase):
    def test_how_many_sheets(self):
        sheets = [SHEET, (("a", 22, 24),), (), (("a", 24, 26), ("b", 24, 26))]
        told = {(20, 2): 0, (20, 3): 1, (21, 2): 1, (23, 1): 1, (23, 2): 2, (24, 1): 1, (26, 4): 0, (26, 5): 1,
                (19, 1): 1, (19, 4): 2, (0, 60): 3, (-9, 9): 0, (-9, 10): 1, (40, 9): 0, (39, 1): 1}
        for (begin, size), many in told.items():
            with self.subTest(begin=begin, size=size):
                self.assertEqual(busy_at(sheets, begin, size), many)

    def test_a_sheet_counts_once_and_each_sheet_for_itself(self):
        twice = (("a", 0, 9), ("b", 0, 9))
        self.assertEqual(busy_at([twice], 0, 5), 1)
        self.assertEqual(busy_at([twice, twice], 0, 5), 2)

    def test_no_sheets_and_sheets_without_meetings(self):
        self.assertEqual(busy_at([], 0, 480), 0)
        self.assertEqual(busy_at([(), ()], 0, 480), 0)

    def test_many_sheets(self):
        for sheets in sheets_together():
            for begin, size in itertools.product(range(-2, 7), (1, 2, 4)):
                with self.subTest(sheets=sheets, begin=begin, size=size):
                    self.assertEqual(busy_at(sheets, begin, size), busy_plainly(sheets, begin, size))


class BestTimeTest(unittest.TestCase):
    def test_a_free_time_is_best(self):
        self.assertEqual(best_time([SHEET], 0, 60, 10), (20, 0))
        self.assertEqual(best_time([SHEET], 0, 60, 11), (40, 0))
        self.assertEqual(best_time([SHEET], 22, 60, 5), (22, 0))
        self.assertEqual(best_time([SHEET, ()], -5, 60, 5), (-5, 0))

    def test_where_none_is_free_the_least_busy(self):
        sheets = [(("a", 0, 10),), (("a", 0, 4), ("b", 6, 10)), (("a", 0, 5),)]
        self.assertEqual(best_time(sheets, 0, 10, 1), (5, 1))
        self.assertEqual(best_time(sheets, 0, 10, 2), (4, 2))
        self.assertEqual(best_time(sheets, 0, 6, 2), (4, 2))
        self.assertEqual(best_time(sheets, 0, 5, 2), (0, 3))

    def test_the_first_of_several_that_are_equally_good(self):
        self.assertEqual(best_time([], 3, 480, 7), (3, 0))
        self.assertEqual(best_time([(("a", 0, 480),)], 3, 480, 7), (3, 1))
        self.assertEqual(best_time([(("a", 0, 5), ("b", 6, 9))], 0, 20, 1), (5, 0))
        self.assertEqual(best_time([(("a", 8, 9), ("b", 3, 5))], 2, 20, 2), (5, 0))

    def test_a_size_that_just_fits_and_one_that_is_one_too_long(self):
        self.assertEqual(best_time([SHEET], 12, 35, 23), (12, 1))
        self.assertIsNone(best_time([SHEET], 12, 35, 24))
        self.assertEqual(best_time([], 5, 9, 4), (5, 0))
        self.assertIsNone(best_time([], 5, 9, 5))
        self.assertEqual(best_time([SHEET], 5, 30, 10), (20, 0))
        self.assertEqual(best_time([SHEET], 5, 29, 10), (5, 1))

    def test_an_empty_stretch(self):
        self.assertIsNone(best_time([SHEET], 25, 25, 1))
        self.assertIsNone(best_time([], 25, 25, 1))

    def test_many_sheets(self):
        for sheets in sheets_together():
            spans = ((0, 6, 1), (0, 6, 2), (-1, 7, 3), (2, 5, 2), (3, 3, 1), (1, 5, 4), (1, 5, 5), (1, 4, 1))
            for begin, end, size in spans:
                told = [(busy_plainly(sheets, moment, size), moment) for moment in range(begin, end - size + 1)]
                wanted = (min(told)[1], min(told)[0]) if told else None
                with self.subTest(sheets=sheets, begin=begin, end=end, size=size):
                    self.assertEqual(best_time(sheets, begin, end, size), wanted)


class ToldThingsTest(unittest.TestCase):
    def test_told_lists_are_new_ones_of_tuples(self):
        asks = (
            lambda: gaps(SHEET, 0, 60), lambda: long_gaps(SHEET, 0, 60, 1), lambda: common_gaps([SHEET], 0, 60),
            lambda: gaps((), 0, 0), lambda: common_gaps([], 0, 9), lambda: long_gaps((), 0, 9, 0),
        )
        for ask in asks:
            wanted = list(ask())
            self.assertIsInstance(ask(), list)
            self.assertTrue(all(isinstance(row, tuple) for row in wanted))
            ask().append("zz")
            self.assertEqual(ask(), wanted)
        self.assertIsInstance(best_time([], 0, 9, 1), tuple)

    def test_what_is_handed_in_is_not_changed(self):
        sheets = [SHEET, (), TOUCHING]
        for ask in (common_gaps, lambda *given: first_time(*given, 3), lambda *given: best_time(*given, 3), busy_at):
            ask(sheets, 0, 60)
            self.assertEqual(sheets, [SHEET, (), TOUCHING])


if __name__ == "__main__":
    unittest.main()
