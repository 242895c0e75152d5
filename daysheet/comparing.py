"""Sheets side by side, and sheets moved or turned about as a whole."""

from daysheet.errors import Taken, TooMany
from daysheet.loads import busy
from daysheet.sheets import MOST_MEETINGS, later, names_of, refuse_wrong_times


def names_alone(one, other):
    return [name for name in names_of(one) if name not in names_of(other)]


def unlike_names(one, other):
    unlike = [meeting[0] for meeting in one if meeting not in other and meeting[0] in names_of(other)]
    return (names_alone(one, other), names_alone(other, one), unlike)


def common(one, other):
    return tuple([meeting for meeting in one if meeting in other])


def merged(one, other):
    if unlike_names(one, other)[2]:
        raise Taken("a name has other times in the other sheet")
    together = one + tuple([meeting for meeting in other if meeting not in one])
    if len(together) > MOST_MEETINGS:
        raise TooMany("one sheet can't have all these meetings")
    return tuple(sorted(together))


def shared_time(one, other):
    told = 0
    for begin, end in busy(one):
        told += sum([max(min(end, last) - max(begin, first), 0) for first, last in busy(other)])
    return told


def meeting_at(name, begin, end):
    refuse_wrong_times(begin, end)
    return (name, begin, end)


def shifted(sheet, by):
    return tuple([meeting_at(name, later(begin, by), later(end, by)) for name, begin, end in sheet])


def turned_about(sheet, last):
    # The end becomes the beginning, counted down from last, and the beginning the end.
    return tuple([meeting_at(name, later(-end, last), later(-begin, last)) for name, begin, end in sheet])
