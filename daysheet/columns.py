"""Groups that hang together, the columns in which meetings are laid, and the boxes that they fill."""

from daysheet.errors import NoMeeting
from daysheet.loads import most_at_once
from daysheet.sheets import is_whole, names_at, names_of, overlap, partners


def in_laying_order(sheet):
    return sorted(sheet, key=lambda meeting: (meeting[1], -meeting[2], meeting[0]))


def groups(sheet):
    told = []
    reach = 0
    for name, begin, end in in_laying_order(sheet):
        # None of the groups ahead of the last one reaches as far as this one's beginning.
        if told and begin < reach:
            told[-1].append(name)
            reach = max(reach, end)
        else:
            told.append([name])
            reach = end
    return [sorted(group) for group in told]


def group_of(sheet, name):
    for group in groups(sheet):
        if name in group:
            return group
    raise NoMeeting("no meeting has this name")


def first_free(taken):
    column = 0
    while column in taken:
        column += 1
    return column


def laid_meetings(sheet):
    # By meetings and not by names, so that it holds also where names come twice.
    laid = []
    for meeting in in_laying_order(sheet):
        taken = [column for other, column in laid if overlap(meeting, other)]
        laid.append((meeting, first_free(taken)))
    return laid


def columns(sheet):
    return dict([(meeting[0], column) for meeting, column in laid_meetings(sheet)])


def shares_column(sheet, laying, name):
    return any([laying[other] == laying[name] for other in partners(sheet, name)])


def is_laid(sheet, laying):
    if set(laying) != set(names_of(sheet)):
        return False
    # A truth is no column, though it is equal to one.
    if not all([is_whole(column) for column in laying.values()]):
        return False
    return not any([shares_column(sheet, laying, name) for name in names_of(sheet)])


def part_of(sheet, names):
    return tuple([meeting for meeting in sheet if meeting[0] in names])


def width_of(sheet, name):
    return most_at_once(part_of(sheet, group_of(sheet, name)))


def box_of(sheet, laying, name):
    first = laying[name]
    most = width_of(sheet, name)
    stops = [most] + [laying[other] for other in partners(sheet, name)]
    return (name, first, min([stop for stop in stops if stop > first]), most)


def boxes(sheet):
    laying = columns(sheet)
    return [box_of(sheet, laying, name) for name in names_of(sheet)]


def do_cross(one, other):
    # Boxes of unlike groups count in unlike parts: times the other's parts, both count in the same.
    first = max(one[1] * other[3], other[1] * one[3])
    last = min(one[2] * other[3], other[2] * one[3])
    return first < last


def has_place(box, part, whole):
    return box[1] * whole <= part * box[3] < box[2] * whole


def name_at_place(sheet, moment, part, whole):
    laying = columns(sheet)
    # Meetings that go on together do not cross, so that no second one can have the place.
    for name in names_at(sheet, moment):
        if has_place(box_of(sheet, laying, name), part, whole):
            return name
    return None
