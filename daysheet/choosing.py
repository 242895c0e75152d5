"""The most meetings that do not overlap, moments that show that there are no more, and the weightiest."""

from daysheet.columns import part_of
from daysheet.errors import NoMeeting
from daysheet.loads import most_at_once
from daysheet.sheets import is_whole, names_of


def in_ending_order(sheet):
    return sorted(sheet, key=lambda meeting: (meeting[2], meeting[1], meeting[0]))


def most_apart(sheet):
    chosen = []
    for meeting in in_ending_order(sheet):
        if not chosen or chosen[-1][2] <= meeting[1]:
            chosen.append(meeting)
    return names_of(chosen)


def is_met(meeting, moments):
    # A truth is no moment, though it is equal to one.
    return any([is_whole(moment) and meeting[1] <= moment < meeting[2] for moment in moments])


def fewest_moments(sheet):
    moments = []
    for meeting in in_ending_order(sheet):
        if not is_met(meeting, moments):
            moments.append(meeting[2] - 1)
    return moments


def are_apart(sheet):
    return most_at_once(sheet) <= 1


def are_met(sheet, moments):
    return all([is_met(meeting, moments) for meeting in sheet])


def is_paper(sheet, names, moments):
    chosen = part_of(sheet, names)
    # Names that come twice, or are of no meeting, leave fewer meetings than names.
    if not len(chosen) == len(names) == len(moments):
        return False
    return are_apart(chosen) and are_met(sheet, moments)


def best_choice(choices):
    return max(choices, key=lambda choice: choice[0], default=(0, []))


def weightiest(sheet, worths):
    if set(worths) != set(names_of(sheet)):
        raise NoMeeting("the worths are not those of the sheet's meetings")
    by_last = []
    for name, begin, end in in_ending_order(sheet):
        # What is worth nothing, or less, never makes a choice better.
        if worths[name] > 0:
            ahead = best_choice([choice for last, choice in by_last if last <= begin])
            by_last.append((end, (ahead[0] + worths[name], ahead[1] + [name])))
    return best_choice([choice for last, choice in by_last])
