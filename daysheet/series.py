"""Meetings that come again: when, as a sheet, with one left out, in two parts, and beside one another."""

from daysheet.choosing import are_apart
from daysheet.errors import NoTime
from daysheet.sheets import LAST_END, is_name, is_rising, is_whole

MOST_TIMES = 10
LETTERS = "abcdefghijklmnopqrstuvwxyz"


def are_numbers(thing, many):
    if not isinstance(thing, tuple) or not all([is_whole(number) for number in thing]):
        return False
    return is_rising(list(thing)) and all([0 <= number < many for number in thing])


def end_of_last(series):
    # Also one that is left out may not end behind the last moment, so that out does not matter here.
    return series[1] + series[3] * (series[4] - 1) + series[2]


def is_series(thing):
    if not isinstance(thing, tuple) or len(thing) != 6 or not is_name(thing[0]):
        return False
    if not all([is_whole(number) for number in thing[1:5]]):
        return False
    if thing[1] < 0 or thing[2] < 1 or thing[3] < 1 or not 1 <= thing[4] <= MOST_TIMES:
        return False
    return are_numbers(thing[5], thing[4]) and end_of_last(thing) <= LAST_END


def numbers_of(series):
    return [number for number in range(series[4]) if number not in series[5]]


def time_of(series, number):
    begin = series[1] + series[3] * number
    return (begin, begin + series[2])


def times_of(series):
    return [time_of(series, number) for number in numbers_of(series)]


def as_sheet(series):
    return tuple([(series[0][0] + LETTERS[number],) + time_of(series, number) for number in numbers_of(series)])


def without_time(series, number):
    # A truth is no number, though it is equal to one.
    if not is_whole(number) or number not in numbers_of(series):
        raise NoTime("the series has no meeting of this number")
    return series[:5] + (tuple(sorted(series[5] + (number,))),)


def part_from(series, first, behind):
    if first == behind:
        return None
    begin = time_of(series, first)[0]
    out = tuple([number - first for number in series[5] if first <= number < behind])
    return (series[0], begin, series[2], series[3], behind - first, out)


def parted(series, number):
    cut = min(max(number, 0), series[4])
    return (part_from(series, 0, cut), part_from(series, cut, series[4]))


def first_clash(one, other):
    clashes = []
    for begin, end in times_of(one):
        clashes.extend([max(begin, first) for first, last in times_of(other) if max(begin, first) < min(end, last)])
    return min(clashes, default=None)


def goes_with_itself(series):
    return are_apart(as_sheet(series))
