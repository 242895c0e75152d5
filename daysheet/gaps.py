"""Free stretches of one sheet and of several, and the moments at which something new goes in."""

from daysheet.loads import busy


def gaps(sheet, begin, end):
    told = []
    free_from = begin
    for first, last in busy(sheet):
        if free_from < min(first, end):
            told.append((free_from, min(first, end)))
        free_from = max(free_from, last)
    if free_from < end:
        told.append((free_from, end))
    return told


def long_gaps(sheet, begin, end, least):
    return [(first, last) for first, last in gaps(sheet, begin, end) if last - first >= least]


def all_meetings(sheets):
    together = []
    for sheet in sheets:
        together.extend(sheet)
    return tuple(together)


def common_gaps(sheets, begin, end):
    return gaps(all_meetings(sheets), begin, end)


def first_time(sheets, begin, end, size):
    fitting = long_gaps(all_meetings(sheets), begin, end, size)
    return fitting[0][0] if fitting else None


def is_busy(sheet, begin, end):
    return any([max(first, begin) < min(last, end) for name, first, last in sheet])


def busy_at(sheets, begin, size):
    return len([sheet for sheet in sheets if is_busy(sheet, begin, begin + size)])


def best_time(sheets, begin, end, size):
    # Moving on, a sheet is rid of meetings only where one ends, so no other moments need a look.
    ends = [last for name, first, last in all_meetings(sheets) if last > begin]
    fitting = [moment for moment in [begin] + ends if moment + size <= end]
    told = sorted([(busy_at(sheets, moment, size), moment) for moment in fitting])
    return (told[0][1], told[0][0]) if told else None
