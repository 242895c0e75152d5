"""Promises 7.1 to 7.3, 0.2 (f), and 0.3 as far as it speaks of what is chosen."""

import itertools
import unittest

from daysheet.choosing import are_apart, are_met, fewest_moments, is_paper, most_apart, weightiest
from daysheet.errors import NoMeeting, SheetError
from daysheet.sheets import overlap

SHEET = (("a", 0, 10), ("bb", 5, 15), ("c", 10, 20), ("d", 30, 480))
TOUCHING = (("a", 0, 5), ("b", 5, 10), ("c", 10, 15))
SHORT_TIMES = [(begin, end) for begin in range(5) for end in range(begin + 1, 6)]


def short_sheets():
    for many in range(4):
        for times in itertools.product(SHORT_TIMES, repeat=many):
            yield tuple([(name,) + time for name, time in zip("abc", times)])


def long_sheets(longest):
    # By a fixed rule, so that each run looks at the same ones.
    number = 11
    for many in range(4, longest + 1):
        for spread in (6, 15, 40):
            sheet = []
            for letter in "abcdefghijklmnop"[:many]:
                number = (number * 1103515245 + 12345) % 2147483648
                begin = number // 65536 % spread
                number = (number * 1103515245 + 12345) % 2147483648
                sheet.append((letter, begin, begin + 1 + number // 65536 % 9))
            yield tuple(sheet)


def parts(sheet):
    for many in range(len(sheet) + 1):
        yield from itertools.combinations(sheet, many)


def apart_plainly(meetings):
    return not any(overlap(one, other) for one, other in itertools.combinations(meetings, 2))


def met_plainly(sheet, moments):
    return all(any(moment in range(begin, end) for moment in moments) for name, begin, end in sheet)


def names_by_ends(meetings):
    return [meeting[0] for meeting in sorted(meetings, key=lambda meeting: meeting[2])]


class MostApartTest(unittest.TestCase):
    def test_ordinary_sheets(self):
        self.assertEqual(most_apart(SHEET), ["a", "c", "d"])
        self.assertEqual(most_apart((("a", 0, 100), ("b", 1, 2), ("c", 3, 4))), ["b", "c"])
        self.assertEqual(most_apart((("a", 479, 480),)), ["a"])

    def test_no_meetings(self):
        self.assertEqual(most_apart(()), [])

    def test_meetings_that_touch(self):
        self.assertEqual(most_apart(TOUCHING), ["a", "b", "c"])
        self.assertEqual(most_apart((("a", 0, 6), ("b", 5, 10), ("c", 10, 15))), ["a", "c"])

    def test_by_their_ends_not_by_their_names(self):
        self.assertEqual(most_apart((("a", 50, 60), ("b", 0, 5), ("c", 20, 30))), ["b", "c", "a"])

    def test_of_those_that_end_together_that_which_begins_first(self):
        self.assertEqual(most_apart((("a", 3, 9), ("b", 1, 9), ("c", 2, 9))), ["b"])
        self.assertEqual(most_apart((("a", 0, 2), ("b", 4, 9), ("c", 1, 9), ("d", 3, 9))), ["a", "d"])

    def test_of_those_that_begin_together_that_which_ends_first(self):
        self.assertEqual(most_apart((("a", 0, 5), ("b", 0, 3), ("c", 0, 4))), ["b"])

    def test_of_those_that_are_alike_by_names(self):
        self.assertEqual(most_apart((("a", 3, 9), ("b", 3, 9), ("c", 3, 9))), ["a"])
        self.assertEqual(most_apart((("aa", 9, 10), ("b", 9, 10), ("z", 0, 9))), ["z", "aa"])

    def check(self, sheet):
        wanted = []
        reach = 0
        while True:
            likely = [(end, begin, name) for name, begin, end in sheet if begin >= reach and name not in wanted]
            if not likely:
                break
            reach = min(likely)[0]
            wanted.append(min(likely)[2])
        with self.subTest(sheet=sheet):
            self.assertEqual(most_apart(sheet), wanted)
            self.assertTrue(apart_plainly([part for part in sheet if part[0] in wanted]))
        return wanted

    def test_many_sheets(self):
        for sheet in itertools.chain(short_sheets(), long_sheets(16)):
            self.check(sheet)

    def test_as_many_as_can_be(self):
        for sheet in itertools.chain(list(short_sheets())[::3], long_sheets(9)):
            most = max(len(part) for part in parts(sheet) if apart_plainly(part))
            self.assertEqual(len(self.check(sheet)), most)


class FewestMomentsTest(unittest.TestCase):
    def test_ordinary_sheets(self):
        self.assertEqual(fewest_moments(SHEET), [9, 19, 479])
        self.assertEqual(fewest_moments((("a", 0, 100), ("b", 1, 2), ("c", 3, 4))), [1, 3])
        self.assertEqual(fewest_moments((("a", 0, 1),)), [0])

    def test_no_meetings(self):
        self.assertEqual(fewest_moments(()), [])

    def test_meetings_that_touch_have_no_moment_in_common(self):
        self.assertEqual(fewest_moments(TOUCHING), [4, 9, 14])

    def test_meetings_that_end_together_begin_together_or_are_alike(self):
        self.assertEqual(fewest_moments((("a", 3, 9), ("b", 1, 9), ("c", 8, 9))), [8])
        self.assertEqual(fewest_moments((("a", 0, 5), ("b", 0, 3), ("c", 0, 4))), [2])
        self.assertEqual(fewest_moments((("a", 3, 9), ("b", 3, 9))), [8])

    def test_one_that_begins_at_the_last_moment_of_another_is_met_by_it(self):
        self.assertEqual(fewest_moments((("a", 0, 5), ("b", 4, 9))), [4])
        self.assertEqual(fewest_moments((("a", 0, 5), ("b", 5, 9))), [4, 8])

    def test_any_tuple_of_meetings(self):
        self.assertEqual(fewest_moments((("b", 8, 9), ("a", 2, 3), ("b", 8, 9), ("b", 5, 6))), [2, 5, 8])
        self.assertEqual(fewest_moments((("a", 3, 4),) * 20), [3])

    def check(self, sheet):
        wanted = []
        while not met_plainly(sheet, wanted):
            wanted.append(min(part[2] for part in sheet if not met_plainly([part], wanted)) - 1)
        with self.subTest(sheet=sheet):
            self.assertEqual(fewest_moments(sheet), wanted)
            self.assertEqual(wanted, sorted(set(wanted)))
        return wanted

    def test_many_sheets(self):
        for sheet in itertools.chain(short_sheets(), long_sheets(16)):
            self.check(sheet)

    def test_no_fewer_moments_will_do(self):
        for sheet in list(short_sheets())[::5]:
            many = len(self.check(sheet))
            if many:
                for moments in itertools.combinations(range(5), many - 1):
                    self.assertFalse(met_plainly(sheet, moments))

    def test_as_many_as_the_most_meetings_that_do_not_overlap(self):
        for sheet in itertools.chain(short_sheets(), long_sheets(16)):
            with self.subTest(sheet=sheet):
                self.assertEqual(len(fewest_moments(sheet)), len(most_apart(sheet)))
                self.assertIs(is_paper(sheet, most_apart(sheet), fewest_moments(sheet)), True)


class AreApartTest(unittest.TestCase):
    def test_are_apart(self):
        self.assertIs(are_apart(()), True)
        self.assertIs(are_apart((("a", 0, 480),)), True)
        self.assertIs(are_apart(TOUCHING), True)
        self.assertIs(are_apart(SHEET), False)
        self.assertIs(are_apart((("a", 0, 6), ("b", 5, 10))), False)
        self.assertIs(are_apart((("a", 0, 5), ("b", 90, 95), ("c", 94, 99))), False)

    def test_any_tuple_of_meetings(self):
        self.assertIs(are_apart((("b", 8, 9), ("a", 2, 3), ("b", 5, 6))), True)
        self.assertIs(are_apart((("b", 8, 9), ("b", 8, 9))), False)

    def test_many_sheets(self):
        for sheet in itertools.chain(short_sheets(), long_sheets(16)):
            with self.subTest(sheet=sheet):
                self.assertIs(are_apart(sheet), apart_plainly(sheet))


class AreMetTest(unittest.TestCase):
    def test_are_met(self):
        self.assertIs(are_met(SHEET, [9, 19, 479]), True)
        self.assertIs(are_met(SHEET, [30, 10, 0, 5]), True)
        self.assertIs(are_met(SHEET, [9, 19]), False)
        self.assertIs(are_met(SHEET, [5, 480, 10]), False)
        self.assertIs(are_met(SHEET, [9, 9, 19, 100, 100, -4, 999]), True)
        self.assertIs(are_met(SHEET, []), False)

    def test_the_beginning_is_a_moment_of_a_meeting_and_the_end_is_none(self):
        told = {4: False, 5: True, 9: True, 10: False, -1: False}
        for moment, answer in told.items():
            self.assertIs(are_met((("a", 5, 10),), [moment]), answer)

    def test_no_meetings(self):
        self.assertIs(are_met((), []), True)
        self.assertIs(are_met((), [5]), True)

    def test_truths_are_no_moments(self):
        self.assertIs(are_met((("a", 0, 5),), [True]), False)
        self.assertIs(are_met((("a", 0, 5),), [False]), False)
        self.assertIs(are_met((("a", 0, 5),), [True, 1]), True)

    def test_any_tuple_of_meetings(self):
        self.assertIs(are_met((("b", 8, 9), ("a", 2, 3), ("b", 8, 9)), [8, 2]), True)
        self.assertIs(are_met((("b", 8, 9), ("b", 2, 3)), [8]), False)

    def test_short_sheets(self):
        for sheet in list(short_sheets())[::7]:
            for moments in itertools.product(range(-1, 6), repeat=2):
                with self.subTest(sheet=sheet, moments=moments):
                    self.assertIs(are_met(sheet, list(moments)), met_plainly(sheet, moments))


class IsPaperTest(unittest.TestCase):
    def check(self, answer, names, moments, sheet=SHEET):
        with self.subTest(sheet=sheet, names=names, moments=moments):
            self.assertIs(is_paper(sheet, names, moments), answer)

    def test_papers(self):
        self.check(True, ["a", "c", "d"], [9, 19, 479])
        self.check(True, ["d", "a", "c"], [100, 12, 7])
        self.check(True, ["bb"], [0], (("bb", 0, 1),))

    def test_no_meetings(self):
        self.check(True, [], [], ())
        self.check(False, ["a"], [0], ())
        self.check(False, [], [0], ())
        self.check(False, ["a"], [], ())

    def test_one_name_more_or_less(self):
        self.check(False, ["a", "c", "d", "bb"], [9, 19, 479])
        self.check(False, ["a", "c"], [9, 19, 479])
        self.check(False, [], [9, 19, 479])

    def test_one_moment_more_or_less(self):
        self.check(False, ["a", "c", "d"], [9, 19, 479, 100])
        self.check(False, ["a", "c", "d"], [9, 19])
        self.check(False, ["a", "c", "d"], [])

    def test_one_more_of_both_or_one_less_of_both(self):
        self.check(False, ["a", "bb", "c", "d"], [9, 19, 479, 100])
        self.check(False, ["a", "c"], [9, 19])
        self.check(False, [], [])

    def test_a_name_twice(self):
        self.check(False, ["a", "c", "d", "d"], [9, 19, 479, 100])
        self.check(False, ["a", "d", "d"], [9, 19, 479])

    def test_a_moment_twice(self):
        self.check(False, ["a", "c", "d"], [9, 479, 479])
        self.check(False, ["a", "c", "d"], [9, 19, 479, 479])

    def test_a_name_of_no_meeting(self):
        self.check(False, ["a", "b", "d"], [9, 19, 479])
        self.check(False, ["a", "c", ""], [9, 19, 479])
        self.check(False, ["a", "c", "d", "e"], [9, 19, 479, 100])
        self.check(False, ["a", "c", "dd"], [9, 19, 479])

    def test_two_that_overlap(self):
        self.check(False, ["a", "bb", "d"], [9, 19, 479])
        self.check(False, ["bb", "c", "d"], [9, 19, 479])
        self.check(False, ["a", "b"], [2, 3], (("a", 0, 5), ("b", 0, 5)))

    def test_a_meeting_that_goes_on_at_none_of_the_moments(self):
        self.check(False, ["a", "c", "d"], [9, 19, 480])
        self.check(False, ["a", "c", "d"], [4, 15, 30])
        self.check(False, ["a", "c", "d"], [9, 20, 479])

    def test_truths_are_no_moments(self):
        self.check(False, ["a"], [True], (("a", 0, 5),))
        self.check(False, ["a"], [False], (("a", 0, 5),))

    def test_whatever_paper_is_let_by_shows_that_there_are_no_more(self):
        names = ["a", "b", "c", "x"]
        papers = [list(chosen) for many in range(4) for chosen in itertools.product(names, repeat=many)]
        for sheet in list(short_sheets())[::97] + [TOUCHING, (("a", 0, 2), ("b", 3, 5), ("c", 1, 4))]:
            most = len(most_apart(sheet))
            own = dict([(meeting[0], meeting) for meeting in sheet])
            rows = ([], [0], [4], [0, 3], [1, 4], [2, 2], [0, 2, 4], [1, 5, 10])
            for chosen, moments in itertools.product(papers, rows):
                right = len(set(chosen)) == len(chosen) == len(moments) and set(chosen) <= set(own)
                right = right and apart_plainly([own[name] for name in chosen]) and met_plainly(sheet, moments)
                self.check(right, chosen, moments, sheet)
                if is_paper(sheet, chosen, moments):
                    self.assertEqual(len(chosen), most)


class WeightiestTest(unittest.TestCase):
    def check(self, sheet, worths):
        own = dict([(meeting[0], meeting) for meeting in sheet])
        with self.subTest(sheet=sheet, worths=worths):
            told = weightiest(sheet, worths)
            self.assertIsInstance(told, tuple)
            worth, names = told
            self.assertIsInstance(names, list)
            self.assertEqual(len(names), len(set(names)))
            chosen = [own[name] for name in names]
            self.assertTrue(apart_plainly(chosen))
            self.assertEqual(names, names_by_ends(chosen))
            self.assertEqual(sum(worths[name] for name in names), worth)
            sums = [sum(worths[part[0]] for part in chosen) for chosen in parts(sheet) if apart_plainly(chosen)]
            self.assertEqual(worth, max(sums))

    def test_ordinary_sheets(self):
        self.assertEqual(weightiest(SHEET, {"a": 3, "bb": 4, "c": 2, "d": 1}), (6, ["a", "c", "d"]))
        self.assertEqual(weightiest(SHEET, {"a": 3, "bb": 6, "c": 2, "d": 1}), (7, ["bb", "d"]))
        self.assertEqual(weightiest((("a", 0, 1),), {"a": 9}), (9, ["a"]))

    def test_by_their_ends(self):
        sheet = (("a", 50, 60), ("b", 0, 5), ("c", 20, 30))
        self.assertEqual(weightiest(sheet, {"a": 1, "b": 1, "c": 1}), (3, ["b", "c", "a"]))

    def test_no_meetings(self):
        self.assertEqual(weightiest((), {}), (0, []))

    def test_worths_of_0_and_below_0(self):
        self.assertEqual(weightiest((("a", 0, 5),), {"a": 0}), (0, []))
        self.assertEqual(weightiest((("a", 0, 5),), {"a": -3}), (0, []))
        self.assertEqual(weightiest(TOUCHING, {"a": -1, "b": -2, "c": -3}), (0, []))
        self.assertEqual(weightiest(TOUCHING, {"a": 5, "b": -2, "c": 3}), (8, ["a", "c"]))
        self.check(TOUCHING, {"a": 0, "b": 0, "c": 0})

    def test_meetings_that_touch_may_both_be_chosen(self):
        self.assertEqual(weightiest(TOUCHING, {"a": 1, "b": 2, "c": 3}), (6, ["a", "b", "c"]))

    def test_worths_that_are_all_alike_choose_as_many_as_can_be(self):
        for sheet in itertools.chain(list(short_sheets())[::5], long_sheets(16)):
            worths = dict([(meeting[0], 7) for meeting in sheet])
            self.assertEqual(weightiest(sheet, worths)[0], 7 * len(most_apart(sheet)))

    def test_short_sheets(self):
        for sheet in list(short_sheets())[::13]:
            for numbers in itertools.product((-2, 0, 1, 3), repeat=len(sheet)):
                self.check(sheet, dict(zip("abc", numbers)))

    def test_long_sheets(self):
        for sheet in long_sheets(10):
            for factor in (3, 5, 8):
                worths = dict([(part[0], (part[1] * factor + part[2] * 5) % 11 - 2) for part in reversed(sheet)])
                self.check(sheet, worths)

    def test_sixteen_and_seventeen_meetings(self):
        for many in (16, 17):
            letters = "abcdefghijklmnopq"[:many]
            sheet = tuple([(letter, k, k + 2) for k, letter in enumerate(letters)])
            told = weightiest(sheet, dict([(letter, 1) for letter in letters]))
            self.assertEqual(told[0], (many + 1) // 2)

    def test_no_meeting_where_the_names_are_not_just_those_of_the_sheet(self):
        right = {"a": 1, "b": 2, "c": 3}
        wrong = [{}, {"a": 1, "b": 2}, dict(right, d=4), {"a": 1, "b": 2, "d": 3}, dict(right, **{"": 0}), {"aa": 1}]
        for worths in wrong:
            with self.subTest(worths=worths), self.assertRaises(NoMeeting):
                weightiest(TOUCHING, worths)
        with self.assertRaises(NoMeeting):
            weightiest((), {"a": 1})
        with self.assertRaises(SheetError):
            weightiest((), {"a": 0})


class ToldThingsTest(unittest.TestCase):
    def test_told_lists_are_new_ones(self):
        worths = {"a": 3, "bb": 6, "c": 2, "d": 1}
        asks = (
            lambda: most_apart(SHEET), lambda: most_apart(()),
            lambda: fewest_moments(SHEET), lambda: fewest_moments(()),
            lambda: weightiest(SHEET, worths)[1], lambda: weightiest((), {})[1],
            lambda: weightiest(TOUCHING, {"a": -1, "b": -1, "c": 0})[1],
        )
        for ask in asks:
            wanted = list(ask())
            ask().append("zz")
            self.assertEqual(ask(), wanted)

    def test_what_is_handed_in_is_not_changed(self):
        worths = {"d": 1, "c": 2, "bb": 6, "a": 3}
        weightiest(SHEET, worths)
        self.assertEqual(list(worths.items()), [("d", 1), ("c", 2), ("bb", 6), ("a", 3)])
        names = ["d", "c", "a"]
        moments = [479, 9, 19]
        is_paper(SHEET, names, moments)
        are_met(SHEET, moments)
        self.assertEqual((names, moments), (["d", "c", "a"], [479, 9, 19]))


if __name__ == "__main__":
    unittest.main()
