"""Meetings cut into pieces by days, and the long ones laid in rows above."""

from daysheet.columns import columns, laid_meetings
from daysheet.loads import load_at, most_at_once

DAY = 48


def day_of(moment):
    return moment // DAY


def days_of(meeting):
    # The end is no moment of the meeting, and may be the first one of a day on which it does not go on.
    return list(range(day_of(meeting[1]), day_of(meeting[2] - 1) + 1))


def piece_on(meeting, day):
    start = day * DAY
    return (day, max(meeting[1] - start, 0), min(meeting[2] - start, DAY))


def pieces(meeting):
    return [piece_on(meeting, day) for day in days_of(meeting)]


def is_long(meeting):
    return any([begin == 0 and end == DAY for day, begin, end in pieces(meeting)])


def long_ones(sheet):
    return tuple([meeting for meeting in sheet if is_long(meeting)])


def short_ones(sheet):
    return tuple([meeting for meeting in sheet if not is_long(meeting)])


def day_sheet(sheet, day):
    told = []
    for meeting in short_ones(sheet):
        if day in days_of(meeting):
            piece = piece_on(meeting, day)
            told.append((meeting[0], piece[1], piece[2]))
    return tuple(told)


def long_by_days(sheet, first, many):
    told = []
    for meeting in long_ones(sheet):
        days = [day - first for day in days_of(meeting) if first <= day < first + many]
        if days:
            told.append((meeting[0], days[0], days[-1] + 1))
    return tuple(told)


def bars(sheet, first, many):
    by_days = long_by_days(sheet, first, many)
    rows = columns(by_days)
    return [(name, rows[name], begin, end) for name, begin, end in by_days]


def rows_needed(sheet, first, many):
    return most_at_once(long_by_days(sheet, first, many))


def hidden(sheet, first, many, rows):
    # Not by bars: this one tells nothing of names, which may then come twice.
    laid = laid_meetings(long_by_days(sheet, first, many))
    deep = tuple([meeting for meeting, row in laid if row >= rows])
    return [load_at(deep, day) for day in range(many)]
