"""Promises 5.1 to 5.3, 0.2 (d), and 0.3 as far as it speaks of zones."""

import itertools
import unittest

from daysheet.errors import NoZone
from daysheet.zones import between, first_shown, is_zone, jumps, moments_shown, shown_at, tidy_zone

PLAIN = ((None, 3),)
# It adds 2, from 10 on 5, from 20 on 5 still, from 30 on 1, from 40 on -24.
ZONE = ((None, 2), (10, 5), (20, 5), (30, 1), (40, -24))
NO_ZONES = (
    # Rows too few or too many.
    (), ZONE + ((50, 0),), ZONE + ((50, 0), (60, 0)),
    # A more one beyond either way.
    ((None, 25),), ((None, -25),), ((None, 0), (3, 25)), ((None, 0), (3, -25)), ((None, 0), (3, 25), (4, 0)),
    # Moments not rising, or twice.
    ((None, 0), (5, 1), (4, 2)), ((None, 0), (5, 1), (5, 2)), ((None, 0), (5, 1), (5, 1)),
    ((None, 0), (1, 1), (3, 2), (2, 3)), ((None, 0), (-1, 1), (-2, 2)),
    # A first moment that is a number, and others that are none.
    ((0, 0),), ((0, 0), (5, 1)), ((None, 0), (None, 1)), ((None, 0), (5, 1), (None, 1)), ((5, 1), (None, 0)),
    (("", 0),), ((False, 0),), (((), 0),),
    # Truths and other things in the stead of numbers.
    ((None, True),), ((None, False),), ((None, 0), (True, 1)), ((None, 0), (False, 1)), ((None, 0), (5, True)),
    ((None, 0), (5, False)), ((None, None),), ((None, "0"),), ((None, ()),), ((None, [0]),), ((None, 0), ("5", 1)),
    ((None, 0), ((5,), 1)), ((None, 0), ([5], 1)), ((None, 0), (5, None)), ((None, 0), (5, 1), ("6", 1)),
    # Lists in the stead of tuples.
    [(None, 0)], ([None, 0],), [[None, 0]], ((None, 0), [5, 1]), [(None, 0), (5, 1)], list(ZONE),
    # Rows of another length, and a row in the stead of a zone.
    ((None,),), ((),), ((None, 0, 0),), ((None, 0), (5,)), ((None, 0), (5, 1, 2)), (None, 0), (None,), (0,), ("",),
    (((None, 0),),), ((None, 0), None), ((None, 0), 5), ((None, 0), "ab"), ("ab",), (None, None), ((None, 0), ()),
    # Other things.
    None, True, False, 0, 1, -24, "", "ab", "None", [], [[]], [()], [[[[[1]]]]], ((((("a",),),),),), [None], (True,),
)


def small_zones():
    mores = (-24, -3, -1, 0, 1, 2, 24)
    for more in mores:
        yield ((None, more),)
    for one, other in itertools.product(mores, repeat=2):
        for moment in (-2, 0, 5):
            yield ((None, one), (moment, other))
    for moments in ((-1, 0), (0, 1), (0, 2), (1, 9)):
        for rows in itertools.product((-4, -1, 0, 1, 5), repeat=3):
            yield ((None, rows[0]), (moments[0], rows[1]), (moments[1], rows[2]))
    for rows in itertools.product((-3, 0, 2), repeat=5):
        yield tuple(zip((None, 0, 1, 4, 6), rows))


def shown_plainly(zone, moment):
    added = [more for start, more in zone if start is None or start <= moment]
    return moment + added[-1]


class IsZoneTest(unittest.TestCase):
    def check(self, answer, thing):
        with self.subTest(thing=thing):
            self.assertIs(is_zone(thing), answer)

    def test_zones(self):
        for thing in (
            PLAIN, ZONE, ZONE[:4], ((None, 24),), ((None, -24),), ((None, 0), (-5, 24)), ((None, 0), (0, -24)),
            ((None, 0), (-7, 1), (-6, 1), (0, 2)), ((None, 0), (10 ** 30, 1)), ((None, 0), (5, 0)),
        ):
            self.check(True, thing)

    def test_one_five_and_six_rows(self):
        for many in range(1, 8):
            self.check(many <= 5, ((None, 0),) + tuple([(k, 1) for k in range(1, many)]))

    def test_all_mores(self):
        for more in range(-30, 31):
            self.check(-24 <= more <= 24, ((None, more),))
            self.check(-24 <= more <= 24, ((None, 0), (5, more)))

    def test_no_zones(self):
        for thing in NO_ZONES:
            self.check(False, thing)

    def test_small_zones(self):
        for zone in small_zones():
            self.check(True, zone)


class NoZoneTest(unittest.TestCase):
    def test_each_place_where_no_zone_is_told(self):
        asks = (
            lambda thing: shown_at(thing, 0), jumps, tidy_zone,
            lambda thing: between(thing, PLAIN, 0), lambda thing: between(PLAIN, thing, 0),
            lambda thing: between(thing, thing, 0),
            lambda thing: moments_shown(thing, 0), lambda thing: first_shown(thing, 0),
            lambda thing: moments_shown(thing, 10 ** 6), lambda thing: first_shown(thing, 10 ** 6),
        )
        for number, ask in enumerate(asks):
            for thing in NO_ZONES:
                with self.subTest(number=number, thing=thing), self.assertRaises(NoZone):
                    ask(thing)


class ShownAtTest(unittest.TestCase):
    def test_shown_at(self):
        told = {-100: -98, 0: 2, 9: 11, 10: 15, 19: 24, 20: 25, 29: 34, 30: 31, 39: 40, 40: 16, 41: 17, 480: 456}
        for moment, shown in told.items():
            with self.subTest(moment=moment):
                self.assertEqual(shown_at(ZONE, moment), shown)

    def test_one_row_adds_at_each_moment(self):
        for moment in (-1000, -1, 0, 1, 480, 10 ** 9):
            self.assertEqual(shown_at(PLAIN, moment), moment + 3)
            self.assertEqual(shown_at(((None, 0),), moment), moment)

    def test_moments_below_0(self):
        zone = ((None, 1), (-5, 7))
        self.assertEqual([shown_at(zone, moment) for moment in (-6, -5, -4, 0)], [-5, 2, 3, 7])

    def test_small_zones(self):
        for zone in small_zones():
            with self.subTest(zone=zone):
                for moment in range(-4, 12):
                    self.assertEqual(shown_at(zone, moment), shown_plainly(zone, moment))


class JumpsTest(unittest.TestCase):
    def test_jumps(self):
        self.assertEqual(jumps(ZONE), [(10, 3), (30, -4), (40, -25)])
        self.assertEqual(jumps(((None, -24), (5, 24))), [(5, 48)])

    def test_a_row_that_adds_what_the_row_ahead_adds_is_no_jump(self):
        self.assertEqual(jumps(PLAIN), [])
        self.assertEqual(jumps(((None, 4), (5, 4), (6, 4))), [])
        self.assertEqual(jumps(((None, 4), (5, 4), (6, 1), (7, 1), (8, 4))), [(6, -3), (8, 3)])

    def test_small_zones(self):
        for zone in small_zones():
            wanted = []
            for moment in range(-4, 12):
                by = shown_at(zone, moment) - shown_at(zone, moment - 1) - 1
                if by != 0:
                    wanted.append((moment, by))
            with self.subTest(zone=zone):
                self.assertEqual(jumps(zone), wanted)


class TidyZoneTest(unittest.TestCase):
    def test_tidy_zone(self):
        self.assertEqual(tidy_zone(ZONE), ((None, 2), (10, 5), (30, 1), (40, -24)))
        self.assertEqual(tidy_zone(PLAIN), PLAIN)
        self.assertEqual(tidy_zone(((None, 4), (5, 4), (6, 4))), ((None, 4),))
        self.assertEqual(tidy_zone(((None, 4), (5, 4), (6, 1), (7, 1), (8, 4))), ((None, 4), (6, 1), (8, 4)))
        self.assertEqual(tidy_zone(((None, 4), (5, 1), (6, 4))), ((None, 4), (5, 1), (6, 4)))

    def test_tidy_zones_show_the_same_and_have_no_other_rows(self):
        for zone in small_zones():
            tidy = tidy_zone(zone)
            with self.subTest(zone=zone):
                self.assertIs(is_zone(tidy), True)
                self.assertEqual(jumps(tidy), jumps(zone))
                self.assertEqual(len(tidy), 1 + len(jumps(zone)))
                self.assertEqual(tidy_zone(tidy), tidy)
                for moment in range(-4, 12):
                    self.assertEqual(shown_at(tidy, moment), shown_at(zone, moment))


class BetweenTest(unittest.TestCase):
    def test_between(self):
        self.assertEqual(between(ZONE, PLAIN, 0), -1)
        self.assertEqual(between(PLAIN, ZONE, 0), 1)
        self.assertEqual(between(ZONE, PLAIN, 10), 2)
        self.assertEqual(between(ZONE, PLAIN, 9), -1)
        self.assertEqual(between(ZONE, PLAIN, 40), -27)
        self.assertEqual(between(ZONE, ZONE, 25), 0)
        self.assertEqual(between(((None, 24),), ((None, -24),), -7), 48)

    def test_small_zones(self):
        zones = list(small_zones())
        for one, other in zip(zones, zones[1:]):
            with self.subTest(one=one, other=other):
                for moment in range(-4, 12):
                    wanted = shown_plainly(one, moment) - shown_plainly(other, moment)
                    self.assertEqual(between(one, other, moment), wanted)


class MomentsShownTest(unittest.TestCase):
    def test_moments_shown(self):
        self.assertEqual(moments_shown(PLAIN, 10), [7])
        self.assertEqual(moments_shown(PLAIN, -10), [-13])
        self.assertEqual(moments_shown(ZONE, 11), [9])
        self.assertEqual(moments_shown(ZONE, 15), [10])
        self.assertEqual(moments_shown(ZONE, 456), [480])

    def test_shown_never(self):
        zone = ((None, 0), (10, 3))
        self.assertEqual([moments_shown(zone, shown) for shown in range(9, 14)], [[9], [], [], [], [10]])

    def test_shown_twice_or_more_often(self):
        zone = ((None, 3), (10, 0))
        told = [moments_shown(zone, shown) for shown in range(9, 14)]
        self.assertEqual(told, [[6], [7, 10], [8, 11], [9, 12], [13]])
        self.assertEqual(moments_shown(((None, 4), (2, 2), (4, 0)), 4), [0, 2, 4])
        self.assertEqual(moments_shown(ZONE, 34), [29, 33, 58])

    def test_a_row_twice_shows_a_moment_once(self):
        self.assertEqual(moments_shown(((None, 1), (5, 1), (9, 1)), 7), [6])

    def test_small_zones(self):
        for zone in small_zones():
            with self.subTest(zone=zone):
                for shown in range(-10, 20):
                    wanted = [moment for moment in range(-40, 50) if shown_plainly(zone, moment) == shown]
                    self.assertEqual(moments_shown(zone, shown), wanted)

    def test_each_moment_is_among_those_that_are_shown_as_it_is(self):
        for zone in small_zones():
            with self.subTest(zone=zone):
                for moment in range(-40, 50):
                    self.assertIn(moment, moments_shown(zone, shown_at(zone, moment)))

    def test_times_are_shown_twice_or_never_by_as_many_as_a_zone_jumps(self):
        for one, other in itertools.product(range(-24, 25), repeat=2):
            zone = ((None, one), (5, other))
            often = [len(moments_shown(zone, shown)) for shown in range(-60, 70)]
            with self.subTest(zone=zone):
                self.assertEqual(often.count(0), max(other - one, 0))
                self.assertEqual(often.count(2), max(one - other, 0))
                self.assertLessEqual(max(often), 2)


class FirstShownTest(unittest.TestCase):
    def test_the_first_of_them(self):
        self.assertEqual(first_shown(PLAIN, 10), 7)
        self.assertEqual(first_shown(ZONE, 34), 29)
        self.assertEqual([first_shown(((None, 3), (10, 0)), shown) for shown in range(9, 14)], [6, 7, 8, 9, 13])

    def test_where_there_is_none_the_first_that_is_shown_as_more(self):
        self.assertEqual([first_shown(((None, 0), (10, 3)), shown) for shown in range(9, 14)], [9, 10, 10, 10, 10])
        self.assertEqual(first_shown(((None, -24), (0, 24)), 0), 0)

    def test_the_first_of_several_jumps_that_pass_it_by(self):
        # 4 is passed by at 0, gone back over at 1 and passed by at 2 again.
        zone = ((None, 0), (0, 6), (1, 0), (2, 6))
        self.assertEqual(moments_shown(zone, 4), [])
        self.assertEqual(first_shown(zone, 4), 0)
        # Ahead of the jump that passes it by lies one that does not reach so far.
        self.assertEqual(first_shown(((None, 0), (0, 2), (5, 5)), 8), 5)
        self.assertEqual(first_shown(((None, 0), (0, 2), (5, 5)), 1), 0)

    def test_small_zones(self):
        for zone in small_zones():
            with self.subTest(zone=zone):
                for shown in range(-10, 20):
                    wanted = [moment for moment in range(-40, 50) if shown_plainly(zone, moment) == shown]
                    if not wanted:
                        wanted = [
                            moment for moment in range(-40, 50)
                            if shown_plainly(zone, moment - 1) < shown < shown_plainly(zone, moment)
                        ]
                    self.assertEqual(first_shown(zone, shown), wanted[0])


class ToldThingsTest(unittest.TestCase):
    def test_told_lists_are_new_ones(self):
        for ask in (jumps, lambda zone: moments_shown(zone, 34), lambda zone: moments_shown(zone, 13)):
            first = ask(ZONE)
            self.assertIsInstance(first, list)
            wanted = list(first)
            first.append("zz")
            self.assertEqual(ask(ZONE), wanted)

    def test_kinds(self):
        self.assertIsInstance(jumps(ZONE)[0], tuple)
        self.assertIsInstance(tidy_zone(ZONE), tuple)


if __name__ == "__main__":
    unittest.main()
