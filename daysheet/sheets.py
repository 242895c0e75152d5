"""What meetings and sheets are, and sheets with a meeting more, less or at other times."""

from daysheet.errors import NoMeeting, NoTime, Taken, TooMany

LAST_END = 480
MOST_MEETINGS = 16
LONGEST_NAME = 4


def is_whole(thing):
    # Python counts truths among its ints; here they are no whole numbers.
    return isinstance(thing, int) and not isinstance(thing, bool)


def is_name(thing):
    if not isinstance(thing, str) or not 1 <= len(thing) <= LONGEST_NAME:
        return False
    # islower would let by letters other than a to z.
    return all(["a" <= letter <= "z" for letter in thing])


def is_rising(row):
    return row == sorted(set(row))


def are_times(begin, end):
    return is_whole(begin) and is_whole(end) and 0 <= begin < end <= LAST_END


def is_meeting(thing):
    if not isinstance(thing, tuple) or len(thing) != 3:
        return False
    return is_name(thing[0]) and are_times(thing[1], thing[2])


def is_sheet(thing):
    if not isinstance(thing, tuple) or len(thing) > MOST_MEETINGS:
        return False
    # Names can be put in order only once all parts are known to be meetings.
    if not all([is_meeting(part) for part in thing]):
        return False
    return is_rising(names_of(thing))


def names_of(sheet):
    return [meeting[0] for meeting in sheet]


def meeting_of(sheet, name):
    for meeting in sheet:
        if meeting[0] == name:
            return meeting
    raise NoMeeting("no meeting has this name")


def refuse_wrong_times(begin, end):
    if not are_times(begin, end):
        raise NoTime("no meeting can have these times")


def with_meeting(sheet, name, begin, end):
    if name in names_of(sheet):
        raise Taken("a meeting has this name already")
    refuse_wrong_times(begin, end)
    if len(sheet) >= MOST_MEETINGS:
        raise TooMany("the sheet is full")
    return tuple(sorted(sheet + ((name, begin, end),)))


def without_meeting(sheet, name):
    gone = meeting_of(sheet, name)
    return tuple([meeting for meeting in sheet if meeting[0] != gone[0]])


def with_times(sheet, name, begin, end):
    old = meeting_of(sheet, name)
    refuse_wrong_times(begin, end)
    new = (old[0], begin, end)
    return tuple([new if meeting[0] == old[0] else meeting for meeting in sheet])


def later(moment, by):
    # Python would add a truth as 0 or 1.
    if not is_whole(by):
        raise NoTime("no meeting can be moved by what is no whole number")
    return moment + by


def moved(sheet, name, by):
    meeting = meeting_of(sheet, name)
    return with_times(sheet, name, later(meeting[1], by), later(meeting[2], by))


def stretched(sheet, name, by):
    meeting = meeting_of(sheet, name)
    return with_times(sheet, name, meeting[1], later(meeting[2], by))


def overlap(one, other):
    return max(one[1], other[1]) < min(one[2], other[2])


def partners(sheet, name):
    meeting = meeting_of(sheet, name)
    return [other[0] for other in sheet if other[0] != name and overlap(meeting, other)]


def names_at(sheet, moment):
    return [name for name, begin, end in sheet if begin <= moment < end]
