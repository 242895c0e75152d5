"""Promises 10.1, 10.2, 0.2 (i), and 0.3 as far as it speaks of texts of sheets."""

import itertools
import unittest

from daysheet.errors import NoText
from daysheet.texts import read, written

SHEET = (("a", 0, 10), ("bb", 47, 48), ("c", 95, 97), ("d", 30, 480))
TEXT = "a 0:0 0:10\nbb 0:47 1:0\nc 1:47 2:1\nd 0:30 10:0\n"
CUTS = (0, 1, 9, 10, 47, 48, 49, 95, 96, 431, 432, 479, 480)


def some_sheets():
    times = list(itertools.combinations(CUTS, 2))
    names = ("a", "ab", "abcd", "b", "z", "zz")
    yield ()
    for time in times:
        yield (("abcd",) + time,)
    for number, (one, other) in enumerate(itertools.product(times[::7], repeat=2)):
        chosen = sorted({names[number % 6], names[number * 5 // 6 % 6]})
        yield tuple([(name,) + time for name, time in zip(chosen, (one, other))])
    yield tuple([(letter, k, 480 - k) for k, letter in enumerate("abcdefghijklmnop")])


class WrittenTest(unittest.TestCase):
    def test_written(self):
        self.assertEqual(written(SHEET), TEXT)
        self.assertEqual(written((("abcd", 0, 480),)), "abcd 0:0 10:0\n")

    def test_no_meetings(self):
        self.assertEqual(written(()), "")

    def test_places_from_0_to_47(self):
        told = {(0, 1): "0:0 0:1", (46, 47): "0:46 0:47", (47, 48): "0:47 1:0", (48, 96): "1:0 2:0",
                (479, 480): "9:47 10:0"}
        for time, text in told.items():
            with self.subTest(time=time):
                self.assertEqual(written((("a",) + time,)), "a " + text + "\n")

    def test_all_moments(self):
        for moment in range(480):
            begin = f"{moment // 48}:{moment % 48}"
            end = f"{(moment + 1) // 48}:{(moment + 1) % 48}"
            self.assertEqual(written((("a", moment, moment + 1),)), f"a {begin} {end}\n")


class ReadTest(unittest.TestCase):
    def check_refused(self, text):
        with self.subTest(text=text), self.assertRaises(NoText):
            read(text)

    def test_texts_read_back_as_what_they_write(self):
        self.assertEqual(read(TEXT), SHEET)
        self.assertEqual(read(""), ())
        for sheet in some_sheets():
            with self.subTest(sheet=sheet):
                self.assertEqual(read(written(sheet)), sheet)

    def test_all_moments(self):
        for moment in range(480):
            sheet = (("a", moment, moment + 1),)
            self.assertEqual(read(written(sheet)), sheet)

    def test_line_feeds(self):
        for text in ("\n", "\n\n", "\n" + TEXT, TEXT + "\n", TEXT[:-1], TEXT.replace("\n", "\n\n"), "a 0:0 0:1",
                     TEXT.replace("\n", ""), TEXT.replace("\n", " "), "a 0:0\n0:1\n", "a\n0:0 0:1\n",
                     TEXT[:-1] + "\r\n"):
            self.check_refused(text)

    def test_a_blank_more_or_less(self):
        for number in range(len(TEXT) + 1):
            self.check_refused(TEXT[:number] + " " + TEXT[number:])
        for text in (" ", "a 0:00:1\n", "a0:0 0:1\n", "a 0:0  0:1\n", " a 0:0 0:1\n", "a 0:0 0:1 \n", "a 0:0 0:1\n ",
                     "a\t0:0 0:1\n", "a 0: 0 0:1\n"):
            self.check_refused(text)

    def test_a_sign_less(self):
        kept = []
        for number in range(len(TEXT)):
            text = TEXT[:number] + TEXT[number + 1:]
            try:
                kept.append((written(read(text)), text))
            except NoText:
                pass
        self.assertTrue(kept)
        for again, text in kept:
            self.assertEqual(again, text)

    def test_a_sign_exchanged(self):
        # Whatever is still read has to be the writing of what is told.
        signs = [chr(number) for number in range(32, 127)] + ["\n"]
        read_ones = 0
        for number, sign in itertools.product(range(len(TEXT)), signs):
            text = TEXT[:number] + sign + TEXT[number + 1:]
            try:
                told = read(text)
            except NoText:
                continue
            read_ones += 1
            self.assertEqual(written(told), text)
        self.assertGreater(read_ones, len(TEXT))

    def test_a_line_twice_or_out_of_order(self):
        lines = TEXT.splitlines(keepends=True)
        for number in range(4):
            self.check_refused("".join(lines[:number + 1] + lines[number:]))
        self.check_refused(TEXT + TEXT)
        for turned in itertools.permutations(lines):
            if list(turned) != lines:
                self.check_refused("".join(turned))
        self.check_refused("a 0:0 0:1\na 0:2 0:3\n")

    def test_numbers_with_a_0_ahead_or_a_sign(self):
        for moment in ("00:1", "0:01", "01:1", "1:00", "+1:1", "1:+1", "-1:1", "1:-1", "1_0:0", "1:1_0", "0x1:1",
                       "1:1.0"):
            self.check_refused(f"a 0:0 {moment}\n")

    def test_places_and_days_beyond(self):
        for moment in ("0:48", "0:49", "0:100", "1:48", "9:48", "10:1", "11:0", "100:0", "0:480", "0:" + "9" * 5000):
            self.check_refused(f"a 0:0 {moment}\n")

    def test_moments_of_another_form(self):
        for moment in ("", ":", "1", "10", "1:", ":1", "1:1:1", "1;1", "1 1", "a:b", "1:a", "1.1", "\u0661:1",
                       "1:\xb2", "1:1:"):
            self.check_refused(f"a 0:0 {moment}\n")

    def test_times_that_no_meeting_can_have(self):
        for times in ("0:1 0:1", "0:2 0:1", "1:0 0:47", "10:0 10:0", "0:0 0:0"):
            self.check_refused(f"a {times}\n")

    def test_names_that_are_none(self):
        for name in ("", "A", "abcde", "a1", "1", "-", "a,b", "[a]", "\xe4"):
            self.check_refused(f"{name} 0:0 0:1\n")

    def test_parts_too_few_or_too_many(self):
        for line in ("a", "a 0:0", "0:0 0:1", "a 0:0 0:1 0:2", "a b 0:0 0:1", "a 0:0 0:1 x"):
            self.check_refused(line + "\n")

    def test_sixteen_and_seventeen_lines(self):
        lines = [f"{letter} 0:0 0:1\n" for letter in "abcdefghijklmnopq"]
        self.assertEqual(len(read("".join(lines[:16]))), 16)
        self.check_refused("".join(lines))

    def test_what_is_no_text(self):
        for thing in (None, True, False, 0, 1, (), [], (("a", 0, 1),), ["a 0:0 0:1\n"], SHEET):
            self.check_refused(thing)

    def test_kinds(self):
        self.assertIsInstance(read(TEXT), tuple)
        self.assertTrue(all(isinstance(meeting, tuple) for meeting in read(TEXT)))
        self.assertEqual([type(part) for part in read(TEXT)[0]], [str, int, int])


if __name__ == "__main__":
    unittest.main()
