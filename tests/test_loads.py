"""Promises 2.1, 2.2, 0.2 (a), and 0.3 as far as it speaks of loads."""

import itertools
import unittest

from daysheet.loads import busy, load_at, most_at_once, steps, tight_moment, worth_of

SHEET = (("a", 0, 10), ("bb", 5, 15), ("c", 10, 20), ("d", 30, 480))
TOUCHING = (("a", 0, 5), ("b", 5, 10))
SHORT_TIMES = [(begin, end) for begin in range(5) for end in range(begin + 1, 6)]


def short_sheets():
    for many in range(4):
        for times in itertools.product(SHORT_TIMES, repeat=many):
            yield tuple([(name,) + time for name, time in zip("abc", times)])


def counted(sheet, moment):
    many = 0
    for meeting in sheet:
        if moment in range(meeting[1], meeting[2]):
            many += 1
    return many


class LoadAtTest(unittest.TestCase):
    def test_how_many_go_on(self):
        told = {-1: 0, 0: 1, 4: 1, 5: 2, 9: 2, 10: 2, 14: 2, 15: 1, 19: 1, 20: 0, 29: 0, 30: 1, 479: 1, 480: 0, 999: 0}
        for moment, many in told.items():
            with self.subTest(moment=moment):
                self.assertEqual(load_at(SHEET, moment), many)

    def test_no_meetings(self):
        self.assertEqual(load_at((), 0), 0)


class MostTest(unittest.TestCase):
    def test_no_meetings(self):
        self.assertEqual(most_at_once(()), 0)
        self.assertIsNone(tight_moment(()))

    def test_one_meeting(self):
        self.assertEqual(most_at_once((("a", 479, 480),)), 1)
        self.assertEqual(tight_moment((("a", 479, 480),)), 479)
        self.assertEqual(tight_moment((("a", 0, 480),)), 0)

    def test_meetings_that_touch_do_not_go_on_together(self):
        self.assertEqual(most_at_once(TOUCHING), 1)
        self.assertEqual(tight_moment(TOUCHING), 0)

    def test_the_first_of_several_moments(self):
        self.assertEqual(most_at_once(SHEET), 2)
        self.assertEqual(tight_moment(SHEET), 5)
        late_first = (("a", 100, 110), ("b", 105, 110), ("c", 2, 8), ("d", 3, 4))
        self.assertEqual(most_at_once(late_first), 2)
        self.assertEqual(tight_moment(late_first), 3)

    def test_sixteen_and_seventeen_at_once(self):
        for many in (16, 17):
            sheet = tuple([("abcdefghijklmnopq"[k], k, 100 + k) for k in range(many)])
            self.assertEqual(most_at_once(sheet), many)
            self.assertEqual(tight_moment(sheet), many - 1)

    def test_all_short_sheets(self):
        for sheet in short_sheets():
            loads = [counted(sheet, moment) for moment in range(-1, 7)]
            with self.subTest(sheet=sheet):
                self.assertEqual(most_at_once(sheet), max(loads))
                if sheet:
                    self.assertEqual(tight_moment(sheet), loads.index(max(loads)) - 1)


class BusyTest(unittest.TestCase):
    def test_stretches(self):
        self.assertEqual(busy(SHEET), [(0, 20), (30, 480)])
        self.assertEqual(busy((("a", 50, 60), ("b", 0, 10), ("c", 2, 5))), [(0, 10), (50, 60)])
        self.assertEqual(busy((("a", 0, 480),)), [(0, 480)])

    def test_no_meetings(self):
        self.assertEqual(busy(()), [])

    def test_meetings_that_touch_make_one_stretch(self):
        self.assertEqual(busy(TOUCHING), [(0, 10)])

    def test_all_short_sheets(self):
        for sheet in short_sheets():
            told = busy(sheet)
            covered = [moment for begin, end in told for moment in range(begin, end)]
            with self.subTest(sheet=sheet):
                self.assertEqual(covered, [moment for moment in range(7) if counted(sheet, moment) > 0])
                for one, other in zip(told, told[1:]):
                    self.assertLess(one[1], other[0])
                for begin, end in told:
                    self.assertLess(begin, end)


class StepsTest(unittest.TestCase):
    def test_steps(self):
        self.assertEqual(steps(SHEET), [(0, 5, 1), (5, 15, 2), (15, 20, 1), (20, 30, 0), (30, 480, 1)])

    def test_no_meetings(self):
        self.assertEqual(steps(()), [])

    def test_like_ones_are_one_step(self):
        self.assertEqual(steps(TOUCHING), [(0, 10, 1)])
        self.assertEqual(steps((("a", 3, 7), ("b", 3, 7))), [(3, 7, 2)])

    def test_all_short_sheets(self):
        for sheet in short_sheets():
            told = steps(sheet)
            with self.subTest(sheet=sheet):
                if sheet:
                    self.assertEqual(told[0][0], min(begin for name, begin, end in sheet))
                    self.assertEqual(told[-1][1], max(end for name, begin, end in sheet))
                else:
                    self.assertEqual(told, [])
                for one, other in zip(told, told[1:]):
                    self.assertEqual(one[1], other[0])
                    self.assertNotEqual(one[2], other[2])
                for begin, end, many in told:
                    self.assertLess(begin, end)
                    self.assertEqual([counted(sheet, moment) for moment in range(begin, end)], [many] * (end - begin))

    def test_the_load_changes_only_where_one_begins_or_ends(self):
        for sheet in short_sheets():
            ends = [moment for name, begin, end in sheet for moment in (begin, end)]
            with self.subTest(sheet=sheet):
                for moment in range(-1, 7):
                    if load_at(sheet, moment) != load_at(sheet, moment - 1):
                        self.assertIn(moment, ends)
                for begin, end, many in steps(sheet):
                    self.assertIn(begin, ends)
                    self.assertIn(end, ends)


class WorthTest(unittest.TestCase):
    def test_how_long_all_are(self):
        self.assertEqual(worth_of(()), 0)
        self.assertEqual(worth_of((("a", 479, 480),)), 1)
        self.assertEqual(worth_of((("a", 0, 480), ("b", 0, 480))), 960)
        self.assertEqual(worth_of(SHEET), 10 + 10 + 10 + 450)

    def test_worth_is_the_sum_over_the_steps(self):
        for sheet in short_sheets():
            with self.subTest(sheet=sheet):
                self.assertEqual(worth_of(sheet), sum((end - begin) * many for begin, end, many in steps(sheet)))


class AnyTupleOfMeetingsTest(unittest.TestCase):
    def test_names_may_fall_or_come_twice(self):
        loose = (("d", 30, 480), ("c", 10, 20), ("c", 5, 15), ("a", 0, 10))
        for ask in (most_at_once, tight_moment, busy, steps, worth_of):
            with self.subTest(ask=ask.__name__):
                self.assertEqual(ask(loose), ask(SHEET))
        for moment in range(-1, 35):
            self.assertEqual(load_at(loose, moment), load_at(SHEET, moment))

    def test_one_meeting_many_times(self):
        loose = (("a", 3, 5),) * 20
        self.assertEqual(load_at(loose, 4), 20)
        self.assertEqual(most_at_once(loose), 20)
        self.assertEqual(tight_moment(loose), 3)
        self.assertEqual(busy(loose), [(3, 5)])
        self.assertEqual(steps(loose), [(3, 5, 20)])
        self.assertEqual(worth_of(loose), 40)


class ToldThingsTest(unittest.TestCase):
    def test_told_lists_are_new_ones_of_tuples(self):
        for ask in (busy, steps):
            first = ask(SHEET)
            wanted = list(first)
            self.assertTrue(all(isinstance(row, tuple) for row in first))
            first.append("zz")
            self.assertEqual(ask(SHEET), wanted)
            empty = ask(())
            empty.append("zz")
            self.assertEqual(ask(()), [])


if __name__ == "__main__":
    unittest.main()
