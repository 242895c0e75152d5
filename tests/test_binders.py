"""Promises 12.1, 12.2, 13.1, 0.2 (i) and (k), and 0.3 as far as it speaks of binders."""

import itertools
import unittest

from daysheet.binders import Binder, binder_text, read_binder
from daysheet.comparing import merged, shifted
from daysheet.errors import NoBack, NoMeeting, NoSheet, NoText, NoTime, SheetError, Taken, TooMany
from daysheet.sheets import with_meeting, without_meeting
from daysheet.texts import written

LETTERS = "abcdefghijklmnopqrstuvwxyz"
SHEET = (("a", 0, 10), ("bb", 5, 15))
OTHER = (("a", 0, 10), ("c", 10, 20))
UNLIKE = (("a", 0, 11),)
NO_NAMES = (
    "", "abcde", "A", "a1", " a", "a\n", "[a]", "\xe4", None, True, False, 0, 1, (), ("a",), [], ["a"], [[["a"]]],
    (["a"],), ((((["a"],),),),), (None, []),
)
NO_SHEETS = (
    None, True, False, 0, 1, "", "a", "a 0:0 0:1\n", [], [("a", 0, 1)], (["a", 0, 1],), ("a", 0, 1), (("a", 0),),
    (("a", 0, 0),), (("a", 0, 481),), (("a", -1, 1),), (("a", False, 1),), (("a", 0, True),), (("A", 0, 1),),
    (("b", 0, 1), ("a", 0, 1)), (("a", 0, 1), ("a", 0, 1)), (("a", 0, 1), ("a", 2, 3)), (None,), ((),), ([],),
    tuple([(letter, 0, 1) for letter in LETTERS[:17]]), ((((("a",),),),),), [[[[[1]]]]],
)
NO_TIMES = (
    (5, 5), (6, 5), (-1, 5), (0, 481), (480, 481), (True, 5), (False, 5), (0, True), (None, 5), (0, None), ("0", 5),
    (0, "5"), ((0,), 5), (0, [5]), ([[]], [[]]), ((), ()),
)


def full_sheet(letters):
    return tuple([(letter, 0, 1) for letter in letters])


def made():
    binder = Binder()
    binder.lay("one", SHEET)
    binder.lay("two", OTHER)
    binder.lay("un", UNLIKE)
    binder.lay("full", full_sheet(LETTERS[:16]))
    binder.lay("none", ())
    return binder


def held(binder):
    return dict([(name, binder.sheet_of(name)) for name in binder.names()])


def all_of(binder):
    return (held(binder), binder.marks())


class BinderCase(unittest.TestCase):
    def check_refused(self, refusal, binder, deed):
        # What is refused changes nothing, also not what can be taken back or done again.
        binder.lay("zz", ())
        binder.back()
        ahead = all_of(binder)
        with self.assertRaises(refusal):
            deed()
        self.assertEqual(all_of(binder), ahead)
        self.assertEqual(binder.forth(), "lay")
        self.assertEqual(binder.sheet_of("zz"), ())
        self.assertEqual(binder.back(), "lay")
        self.assertEqual(all_of(binder), ahead)


class LayTest(BinderCase):
    def test_a_new_binder(self):
        binder = Binder()
        self.assertEqual(binder.names(), [])
        self.assertEqual(binder.marks(), (0, 0))

    def test_lay_tells_whether_one_had_the_name(self):
        binder = Binder()
        self.assertIs(binder.lay("ab", SHEET), False)
        self.assertEqual(binder.sheet_of("ab"), SHEET)
        self.assertIs(binder.lay("ab", OTHER), True)
        self.assertEqual(binder.sheet_of("ab"), OTHER)
        self.assertIs(binder.lay("ab", OTHER), True)
        self.assertIs(binder.lay("a", OTHER), False)
        self.assertIs(binder.lay("none", ()), False)
        self.assertIs(binder.lay("none", SHEET), True)
        self.assertEqual(held(binder), {"ab": OTHER, "a": OTHER, "none": SHEET})

    def test_lay_behind_take(self):
        binder = made()
        binder.take("one")
        self.assertIs(binder.lay("one", SHEET), False)

    def test_no_sheets(self):
        binder = made()
        for thing in NO_SHEETS:
            for name in ("one", "new"):
                with self.subTest(thing=thing, name=name):
                    self.check_refused(NoSheet, binder, lambda: binder.lay(name, thing))

    def test_no_names(self):
        binder = made()
        for thing in NO_NAMES:
            for sheet in (SHEET, None):
                with self.subTest(thing=thing, sheet=sheet):
                    self.check_refused(NoSheet, binder, lambda: binder.lay(thing, sheet))

    def test_sixteen_meetings(self):
        binder = Binder()
        binder.lay("full", full_sheet(LETTERS[:16]))
        self.assertEqual(len(binder.sheet_of("full")), 16)


class TakeTest(BinderCase):
    def test_take(self):
        binder = made()
        self.assertEqual(binder.take("one"), SHEET)
        self.assertEqual(binder.names(), ["full", "none", "two", "un"])
        self.assertEqual(binder.take("none"), ())
        self.assertEqual(binder.names(), ["full", "two", "un"])
        self.check_refused(NoSheet, binder, lambda: binder.take("one"))
        self.check_refused(NoSheet, binder, lambda: binder.sheet_of("one"))

    def test_sheet_of_takes_nothing(self):
        binder = made()
        ahead = all_of(binder)
        self.assertEqual(binder.sheet_of("one"), SHEET)
        self.assertEqual(binder.sheet_of("none"), ())
        self.assertEqual(all_of(binder), ahead)

    def test_no_sheet_has_the_name(self):
        binder = made()
        for thing in ("on", "ones", "x") + NO_NAMES:
            with self.subTest(thing=thing):
                self.check_refused(NoSheet, binder, lambda: binder.take(thing))
                self.check_refused(NoSheet, binder, lambda: binder.sheet_of(thing))
        self.check_refused(NoSheet, Binder(), lambda: Binder().take("one"))


class ChangeTest(BinderCase):
    def check_told(self, word, binder, name, told, wanted):
        self.assertEqual(told, wanted)
        self.assertEqual(binder.sheet_of(name), wanted)
        self.assertEqual(binder.marks(), (6, 0))
        # No other sheet has changed.
        kept = held(made())
        kept[name] = wanted
        self.assertEqual(held(binder), kept)
        self.assertEqual(binder.back(), word)
        self.assertEqual(all_of(binder), (held(made()), (5, 1)))

    def test_add(self):
        binder = made()
        told = binder.add("one", "b", 3, 480)
        self.check_told("add", binder, "one", told, (("a", 0, 10), ("b", 3, 480), ("bb", 5, 15)))
        binder = made()
        self.check_told("add", binder, "none", binder.add("none", "abcd", 0, 1), (("abcd", 0, 1),))

    def test_add_to_a_sheet_of_fifteen(self):
        binder = Binder()
        binder.lay("most", full_sheet(LETTERS[:15]))
        self.assertEqual(binder.add("most", "p", 0, 1), full_sheet(LETTERS[:16]))

    def test_add_refused(self):
        binder = made()
        for thing in ("x",) + NO_NAMES:
            with self.subTest(thing=thing):
                self.check_refused(NoSheet, binder, lambda: binder.add(thing, "b", 0, 1))
        self.check_refused(Taken, binder, lambda: binder.add("one", "bb", 0, 1))
        for begin, end in NO_TIMES:
            with self.subTest(begin=begin, end=end):
                self.check_refused(NoTime, binder, lambda: binder.add("one", "b", begin, end))
                self.check_refused(NoTime, binder, lambda: binder.add("none", "b", begin, end))
        self.check_refused(TooMany, binder, lambda: binder.add("full", "z", 0, 1))

    def test_add_refuses_in_its_turn(self):
        binder = made()
        self.check_refused(NoSheet, binder, lambda: binder.add("x", "a", 5, 5))
        self.check_refused(Taken, binder, lambda: binder.add("one", "a", 5, 5))
        self.check_refused(Taken, binder, lambda: binder.add("full", "a", True, None))
        self.check_refused(NoTime, binder, lambda: binder.add("full", "z", 5, 5))
        self.check_refused(NoTime, binder, lambda: binder.add("full", "z", [], False))

    def test_drop(self):
        binder = made()
        self.check_told("drop", binder, "one", binder.drop("one", "a"), (("bb", 5, 15),))
        binder = made()
        self.check_told("drop", binder, "un", binder.drop("un", "a"), ())

    def test_drop_refused(self):
        binder = made()
        for thing in ("x",) + NO_NAMES:
            with self.subTest(thing=thing):
                self.check_refused(NoSheet, binder, lambda: binder.drop(thing, "a"))
                self.check_refused(NoSheet, binder, lambda: binder.drop(thing, "x"))
        for name, label in (("one", "b"), ("one", "one"), ("none", "a"), ("one", ""), ("two", "bb")):
            self.check_refused(NoMeeting, binder, lambda: binder.drop(name, label))

    def test_shift(self):
        for by in (5, -0, 465):
            binder = made()
            wanted = (("a", by, 10 + by), ("bb", 5 + by, 15 + by))
            self.check_told("shift", binder, "one", binder.shift("one", by), wanted)
        binder = made()
        self.check_told("shift", binder, "none", binder.shift("none", -999), ())

    def test_shift_refused(self):
        binder = made()
        for thing in ("x",) + NO_NAMES:
            with self.subTest(thing=thing):
                self.check_refused(NoSheet, binder, lambda: binder.shift(thing, 1))
                self.check_refused(NoSheet, binder, lambda: binder.shift(thing, 999))
        for by in (-1, 466, 999, -999, True, False):
            self.check_refused(NoTime, binder, lambda: binder.shift("one", by))

    def test_merge(self):
        binder = made()
        wanted = (("a", 0, 10), ("bb", 5, 15), ("c", 10, 20))
        self.check_told("merge", binder, "one", binder.merge("one", "two"), wanted)
        binder = made()
        self.check_told("merge", binder, "none", binder.merge("none", "two"), OTHER)
        binder = made()
        self.check_told("merge", binder, "one", binder.merge("one", "none"), SHEET)
        binder = made()
        self.check_told("merge", binder, "one", binder.merge("one", "one"), SHEET)

    def test_merge_refused(self):
        binder = made()
        for thing in ("x",) + NO_NAMES:
            with self.subTest(thing=thing):
                self.check_refused(NoSheet, binder, lambda: binder.merge(thing, "one"))
                self.check_refused(NoSheet, binder, lambda: binder.merge("one", thing))
                self.check_refused(NoSheet, binder, lambda: binder.merge(thing, thing))
        self.check_refused(Taken, binder, lambda: binder.merge("one", "un"))
        self.check_refused(Taken, binder, lambda: binder.merge("un", "one"))
        binder.lay("z", (("z", 0, 1),))
        self.check_refused(TooMany, binder, lambda: binder.merge("full", "z"))
        self.check_refused(TooMany, binder, lambda: binder.merge("z", "full"))
        binder.lay("az", (("a", 0, 9), ("z", 0, 1)))
        self.check_refused(Taken, binder, lambda: binder.merge("full", "az"))


class NamesTest(unittest.TestCase):
    def test_rising(self):
        self.assertEqual(made().names(), ["full", "none", "one", "two", "un"])
        binder = Binder()
        for name in ("b", "ab", "a", "z", "aa", "b"):
            binder.lay(name, ())
        self.assertEqual(binder.names(), ["a", "aa", "ab", "b", "z"])

    def test_a_new_list_each_time(self):
        binder = made()
        binder.names().append("zz")
        binder.names().clear()
        self.assertEqual(binder.names(), ["full", "none", "one", "two", "un"])

    def test_binders_share_nothing(self):
        made()
        self.assertEqual(all_of(Binder()), ({}, (0, 0)))


class BackTest(BinderCase):
    def deeds(self, binder):
        return {
            "lay": lambda: binder.lay("new", SHEET),
            "take": lambda: binder.take("one"),
            "add": lambda: binder.add("one", "x", 0, 1),
            "drop": lambda: binder.drop("one", "a"),
            "shift": lambda: binder.shift("one", 1),
            "merge": lambda: binder.merge("one", "two"),
        }

    def test_a_step_back_and_forth_of_each_word(self):
        for word in ("lay", "take", "add", "drop", "shift", "merge"):
            binder = made()
            ahead = held(binder)
            self.deeds(binder)[word]()
            behind = held(binder)
            with self.subTest(word=word):
                self.assertNotEqual(ahead, behind)
                self.assertEqual(binder.marks(), (6, 0))
                for turn in range(3):
                    self.assertEqual(binder.back(), word)
                    self.assertEqual(all_of(binder), (ahead, (5, 1)))
                    self.assertEqual(binder.forth(), word)
                    self.assertEqual(all_of(binder), (behind, (6, 0)))

    def test_a_lay_over_a_sheet_that_is_there(self):
        binder = Binder()
        binder.lay("a", SHEET)
        binder.lay("a", OTHER)
        self.assertEqual(binder.back(), "lay")
        self.assertEqual(binder.sheet_of("a"), SHEET)
        self.assertEqual(binder.back(), "lay")
        self.assertEqual(binder.names(), [])
        self.assertEqual(binder.forth(), "lay")
        self.assertEqual(binder.forth(), "lay")
        self.assertEqual(binder.sheet_of("a"), OTHER)

    def test_steps_that_changed_nothing(self):
        binder = Binder()
        binder.lay("a", SHEET)
        deeds = (("lay", lambda: binder.lay("a", SHEET)), ("shift", lambda: binder.shift("a", 0)),
                 ("merge", lambda: binder.merge("a", "a")))
        for number, (word, deed) in enumerate(deeds):
            deed()
            self.assertEqual(all_of(binder), ({"a": SHEET}, (number + 2, 0)))
        for number, word in enumerate(("merge", "shift", "lay")):
            self.assertEqual(binder.back(), word)
            self.assertEqual(all_of(binder), ({"a": SHEET}, (3 - number, number + 1)))
        self.assertEqual(binder.back(), "lay")
        self.assertEqual(all_of(binder), ({}, (0, 4)))

    def test_an_empty_sheet_is_not_none(self):
        binder = Binder()
        binder.lay("a", ())
        binder.lay("a", SHEET)
        binder.take("a")
        binder.back()
        binder.back()
        self.assertEqual(held(binder), {"a": ()})
        binder.take("a")
        binder.back()
        self.assertEqual(held(binder), {"a": ()})

    def test_no_back_at_both_ends(self):
        binder = Binder()
        self.assertRaises(NoBack, binder.back)
        self.assertRaises(NoBack, binder.forth)
        binder.lay("a", ())
        self.assertRaises(NoBack, binder.forth)
        binder.back()
        self.assertRaises(NoBack, binder.back)
        self.assertEqual(binder.marks(), (0, 1))
        binder.forth()
        self.assertRaises(NoBack, binder.forth)
        self.assertEqual(all_of(binder), ({"a": ()}, (1, 0)))

    def test_forth_behind_another_step(self):
        for word in ("lay", "take", "add", "drop", "shift", "merge"):
            binder = made()
            binder.lay("zz", SHEET)
            binder.lay("zz", OTHER)
            binder.back()
            binder.back()
            self.assertEqual(binder.marks(), (5, 2))
            self.deeds(binder)[word]()
            with self.subTest(word=word):
                self.assertEqual(binder.marks(), (6, 0))
                self.assertRaises(NoBack, binder.forth)
                self.assertEqual(binder.back(), word)
                self.assertEqual(binder.marks(), (5, 1))

    def test_also_a_step_that_changes_nothing_ends_what_can_be_done_again(self):
        binder = made()
        binder.take("two")
        binder.back()
        binder.lay("one", SHEET)
        self.assertRaises(NoBack, binder.forth)

    def test_refused_and_asking_deeds_between_back_and_forth(self):
        binder = made()
        binder.take("two")
        binder.back()
        deeds = (
            lambda: binder.lay("A", ()), lambda: binder.lay("a", []), lambda: binder.take("x"),
            lambda: binder.add("one", "a", 0, 1), lambda: binder.add("one", "x", 0, 0),
            lambda: binder.add("full", "z", 0, 1), lambda: binder.drop("one", "x"), lambda: binder.shift("one", -1),
            lambda: binder.merge("one", "un"), lambda: binder.merge("full", "two"),
            lambda: binder.merge("one", "x"), lambda: binder.sheet_of("x"),
            lambda: read_binder("x"),
        )
        for deed in deeds:
            self.assertRaises(SheetError, deed)
        binder.names()
        binder.sheet_of("one")
        binder.marks()
        binder.twin().take("one")
        binder_text(binder)
        self.assertEqual(binder.marks(), (5, 1))
        self.assertEqual(binder.forth(), "take")
        self.assertEqual(binder.names(), ["full", "none", "one", "un"])

    def test_all_the_way_back_and_forth(self):
        binder = Binder()
        deeds = (
            ("lay", lambda: binder.lay("a", SHEET)), ("lay", lambda: binder.lay("b", OTHER)),
            ("merge", lambda: binder.merge("a", "b")), ("add", lambda: binder.add("b", "x", 1, 2)),
            ("take", lambda: binder.take("b")), ("shift", lambda: binder.shift("a", 7)),
            ("drop", lambda: binder.drop("a", "bb")), ("lay", lambda: binder.lay("a", ())),
            ("take", lambda: binder.take("a")), ("lay", lambda: binder.lay("b", UNLIKE)),
        )
        states = [held(binder)]
        for word, deed in deeds:
            deed()
            states.append(held(binder))
        for turn in range(2):
            for number in reversed(range(10)):
                self.assertEqual(binder.back(), deeds[number][0])
                self.assertEqual(all_of(binder), (states[number], (number, 10 - number)))
            for number in range(10):
                self.assertEqual(binder.forth(), deeds[number][0])
                self.assertEqual(all_of(binder), (states[number + 1], (number + 1, 9 - number)))


class TwinTest(unittest.TestCase):
    def test_a_twin_is_as_the_binder(self):
        binder = made()
        binder.take("one")
        binder.shift("two", 3)
        binder.back()
        twin = binder.twin()
        self.assertIsInstance(twin, Binder)
        self.assertEqual(all_of(twin), all_of(binder))
        self.assertEqual(all_of(twin)[1], (6, 1))
        self.assertEqual(twin.forth(), "shift")
        self.assertEqual(twin.sheet_of("two"), (("a", 3, 13), ("c", 13, 23)))
        self.assertEqual([twin.back() for turn in range(7)], ["shift", "take"] + ["lay"] * 5)
        self.assertEqual(all_of(twin), ({}, (0, 7)))

    def test_each_goes_by_itself(self):
        deeds = (
            lambda binder: binder.lay("one", OTHER), lambda binder: binder.take("one"), lambda binder: binder.back(),
            lambda binder: binder.forth(), lambda binder: binder.add("one", "x", 0, 1),
            lambda binder: binder.drop("one", "a"), lambda binder: binder.shift("one", 1),
            lambda binder: binder.merge("one", "two"),
        )
        for deed in deeds:
            for turned in (False, True):
                one = made()
                one.shift("two", 3)
                one.back()
                other = one.twin()
                kept, changed = (other, one) if turned else (one, other)
                ahead = all_of(kept)
                deed(changed)
                self.assertEqual(all_of(kept), ahead)
                self.assertNotEqual(all_of(changed), ahead)
                self.assertEqual(kept.forth(), "shift")
                self.assertEqual(kept.sheet_of("two"), (("a", 3, 13), ("c", 13, 23)))

    def test_a_twin_of_a_twin_and_of_an_empty_binder(self):
        self.assertEqual(all_of(Binder().twin().twin()), ({}, (0, 0)))
        binder = made()
        third = binder.twin().twin()
        third.take("one")
        self.assertEqual(held(binder), held(made()))


class PlainBinder:
    # Straight from the words: what all sheets were ahead of each step, and behind it.
    def __init__(self):
        self.states = [{}]
        self.words = []
        self.at = 0

    def now(self):
        return (self.states[self.at], (self.at, len(self.words) - self.at))

    def do(self, word, sheets):
        self.states = self.states[:self.at + 1] + [sheets]
        self.words = self.words[:self.at] + [word]
        self.at += 1

    def changed(self, name, sheet):
        sheets = dict(self.states[self.at])
        sheets[name] = sheet
        return sheets

    def carry_out(self, word, given):
        if word == "back" or word == "forth":
            return self.go(word)
        sheets = self.states[self.at]
        if word != "lay" and given[0] not in sheets or word == "merge" and given[1] not in sheets:
            raise NoSheet()
        if word == "lay":
            told = given[0] in sheets
            self.do(word, self.changed(given[0], given[1]))
        elif word == "take":
            told = sheets[given[0]]
            self.do(word, {name: sheet for name, sheet in sheets.items() if name != given[0]})
        else:
            rest = (sheets[given[1]],) if word == "merge" else given[1:]
            told = {"add": with_meeting, "drop": without_meeting, "shift": shifted, "merge": merged}[word](
                sheets[given[0]], *rest)
            self.do(word, self.changed(given[0], told))
        return told

    def go(self, word):
        if self.at == (0 if word == "back" else len(self.words)):
            raise NoBack()
        self.at += -1 if word == "back" else 1
        return self.words[self.at] if word == "back" else self.words[self.at - 1]


class ManyStepsTest(unittest.TestCase):
    def numbers(self, start):
        number = start
        while True:
            number = (number * 1103515245 + 12345) % 2147483648
            yield number // 65536

    def some_deed(self, source):
        name = "abc"[next(source) % 3]
        other = "abcd"[next(source) % 4]
        begin = next(source) % 12
        sheets = ((), SHEET, OTHER, UNLIKE, full_sheet(LETTERS[:16]), full_sheet("pqz"), (("x", 3, 470),))
        deeds = (
            ("lay", (name, sheets[next(source) % 7])), ("lay", (name, sheets[next(source) % 7])), ("take", (name,)),
            ("add", (name, LETTERS[next(source) % 26], begin, begin + next(source) % 5)),
            ("add", (name, LETTERS[next(source) % 26], begin, begin + next(source) % 5)),
            ("drop", (name, LETTERS[next(source) % 5])), ("shift", (name, next(source) % 9 - 4)),
            ("merge", (name, other)), ("back", ()), ("back", ()), ("forth", ()), ("forth", ()),
        )
        return deeds[next(source) % len(deeds)]

    def answer(self, deed, given):
        try:
            return deed(*given)
        except SheetError as refusal:
            return type(refusal)

    def test_many_steps_beside_a_plain_binder(self):
        met = set()
        for start in range(150):
            source = self.numbers(start)
            binder, plain = Binder(), PlainBinder()
            for turn in range(80):
                word, given = self.some_deed(source)
                told = self.answer(getattr(binder, word), given)
                wanted = self.answer(lambda *rest: plain.carry_out(word, rest), given)
                met.add((word, wanted if isinstance(wanted, type) else "done"))
                self.assertEqual(told, wanted, (start, turn, word, given))
                self.assertEqual(all_of(binder), plain.now(), (start, turn, word, given))
        wanted = {
            ("lay", "done"), ("take", "done"), ("take", NoSheet), ("add", "done"), ("add", NoSheet), ("add", Taken),
            ("add", NoTime), ("add", TooMany), ("drop", "done"), ("drop", NoSheet), ("drop", NoMeeting),
            ("shift", "done"), ("shift", NoSheet), ("shift", NoTime), ("merge", "done"), ("merge", NoSheet),
            ("merge", Taken),
            ("merge", TooMany), ("back", "done"), ("back", NoBack), ("forth", "done"), ("forth", NoBack),
        }
        self.assertEqual(met, wanted)


class BinderTextTest(unittest.TestCase):
    def test_binder_text(self):
        binder = Binder()
        self.assertEqual(binder_text(binder), "")
        binder.lay("b", ())
        self.assertEqual(binder_text(binder), "[b]\n")
        binder.lay("ab", (("a", 0, 10), ("bb", 47, 480)))
        self.assertEqual(binder_text(binder), "[ab]\na 0:0 0:10\nbb 0:47 10:0\n[b]\n")
        binder.lay("zzzz", (("z", 48, 49),))
        self.assertEqual(binder_text(binder), "[ab]\na 0:0 0:10\nbb 0:47 10:0\n[b]\n[zzzz]\nz 1:0 1:1\n")

    def test_rising_by_names_whatever_was_laid_first(self):
        for names in itertools.permutations(["a", "aa", "b", "z"]):
            binder = Binder()
            for name in names:
                binder.lay(name, ())
            self.assertEqual(binder_text(binder), "[a]\n[aa]\n[b]\n[z]\n")

    def test_steps_are_not_written(self):
        binder = made()
        text = binder_text(binder)
        ahead = all_of(binder)
        binder.take("one")
        self.assertNotIn("[one]", binder_text(binder))
        binder.back()
        self.assertEqual(binder_text(binder), text)
        self.assertEqual((held(binder), binder.marks()), (ahead[0], (5, 1)))


class ReadBinderTest(unittest.TestCase):
    def check_refused(self, thing):
        with self.subTest(thing=thing), self.assertRaises(NoText):
            read_binder(thing)

    def test_read_binder(self):
        binder = read_binder("[ab]\na 0:0 0:10\nbb 0:47 10:0\n[b]\n")
        self.assertIsInstance(binder, Binder)
        self.assertEqual(all_of(binder), ({"ab": (("a", 0, 10), ("bb", 47, 480)), "b": ()}, (0, 0)))
        self.assertEqual(all_of(read_binder("")), ({}, (0, 0)))
        self.assertEqual(all_of(read_binder("[abcd]\n")), ({"abcd": ()}, (0, 0)))

    def test_a_new_one_without_steps(self):
        binder = made()
        binder.back()
        told = read_binder(binder_text(binder))
        self.assertEqual(all_of(told), (held(binder), (0, 0)))
        self.assertRaises(NoBack, told.back)
        self.assertRaises(NoBack, told.forth)
        told.take("one")
        self.assertIn("one", binder.names())
        self.assertEqual(told.back(), "take")
        self.assertEqual(told.sheet_of("one"), SHEET)
        again = read_binder(binder_text(binder))
        self.assertEqual(all_of(again), (held(binder), (0, 0)))

    def test_texts_read_back_as_what_they_write(self):
        sheets = ((), SHEET, OTHER, UNLIKE, full_sheet(LETTERS[:16]), (("x", 3, 480),))
        for many in range(4):
            for chosen in itertools.product(sheets, repeat=many):
                binder = Binder()
                for name, sheet in zip(("b", "a", "ab"), chosen):
                    binder.lay(name, sheet)
                self.assertEqual(held(read_binder(binder_text(binder))), held(binder))

    def test_all_texts_a_sign_away(self):
        # Whatever is still read has to be the writing of what is told.
        text = "[a]\na 0:0 0:10\nbb 0:47 10:0\n[ab]\n[c]\nd 1:2 3:4\n"
        signs = [chr(number) for number in range(32, 127)] + ["\n"]
        near = [text[:k] + sign + text[k + 1:] for k in range(len(text)) for sign in signs]
        near += [text[:k] + text[k + 1:] for k in range(len(text))]
        near += [text[:k] + sign + text[k:] for k in range(len(text) + 1) for sign in " \n[]a0:"]
        near += [text[:k] for k in range(len(text))] + [text[k:] for k in range(len(text))]
        read_ones = 0
        for other in near:
            try:
                told = read_binder(other)
            except NoText:
                continue
            read_ones += 1
            self.assertEqual(binder_text(told), other)
        self.assertGreater(read_ones, len(text))

    def test_line_feeds_and_blanks(self):
        for text in ("\n", " ", "[a]", "[a]\n\n", "\n[a]\n", "[a] \n", " [a]\n", "[a]\n ", "[ a]\n", "[a]\n[b]",
                     "[a][b]\n", "[a]\nx 0:0 0:1", "[a]\nx 0:0 0:1[b]\n", "[a]\nx 0:0 0:1\n\n[b]\n",
                     "[a]\r\n", "[a]x 0:0 0:1\n"):
            self.check_refused(text)

    def test_brackets(self):
        for text in ("a\n", "[a\n", "a]\n", "[]\n", "[[a]]\n", "[a]]\n", "[[a]\n", "(a)\n", "[", "]", "[]", "]\n",
                     "[\n", "[a]\n[", "[a]\n]\n", "[a]\n]", "[a]\n[\n"):
            self.check_refused(text)

    def test_names(self):
        for name in ("A", "abcde", "a1", "a b", "\xe4", "1", "a\n", "\na", "a,b"):
            self.check_refused(f"[{name}]\n")

    def test_names_twice_or_out_of_order(self):
        self.assertEqual(read_binder("[a]\n[aa]\n[b]\n").names(), ["a", "aa", "b"])
        for text in ("[a]\n[a]\n", "[b]\n[a]\n", "[a]\n[b]\n[a]\n", "[aa]\n[a]\n", "[a]\nx 0:0 0:1\n[a]\nx 0:0 0:1\n",
                     "[a]\nx 0:0 0:1\n[a]\ny 0:0 0:1\n"):
            self.check_refused(text)

    def test_sheets(self):
        rows = "".join([f"{letter} 0:0 0:1\n" for letter in LETTERS])
        for body in ("x\n", "x 0:0\n", "x 0:0 0:0\n", "x 0:0 0:48\n", "x 0:0 0:01\n", "x 00:0 0:1\n", "x 0:0 10:1\n",
                     "X 0:0 0:1\n", "x 0:0  0:1\n", "y 0:0 0:1\nx 0:0 0:1\n", "x 0:0 0:1\nx 0:0 0:1\n", rows,
                     "x 0:0 0:1 0:2\n"):
            self.check_refused("[a]\n" + body)
            self.check_refused("[a]\n" + body + "[b]\n")

    def test_a_sheets_writing_without_a_name(self):
        self.check_refused(written(SHEET))
        self.check_refused(written(SHEET) + "[a]\n")

    def test_things_that_are_no_texts(self):
        things = (None, True, False, 0, 1, -5, (), [], ("[a]\n",), ["[a]\n"], [[[[["[a]\n"]]]]], ((((("a",),),),),),
                  SHEET, (None, []))
        for thing in things:
            self.check_refused(thing)

    def test_texts_of_other_signs(self):
        for text in ("[\u0430]\n", "[a]\nx 0:0 0:\u0661\n", "[a]\nx 0:0 0:\xb2\n", "[a]\u2028", "[a]\x0b",
                     "\ufeff[a]\n",
                     "[a]\x85", "[a]\nx\u00a00:0 0:1\n", "[a]\nx 0:0 0:" + "1" * 5000 + "\n"):
            self.check_refused(text)


if __name__ == "__main__":
    unittest.main()
