"""Zones: what is added to moments to show them, with jumps."""

from daysheet.errors import NoZone
from daysheet.sheets import is_rising, is_whole

MOST_ROWS = 5
MOST_MORE = 24


def is_row(thing):
    if not isinstance(thing, tuple) or len(thing) != 2:
        return False
    return is_whole(thing[1]) and -MOST_MORE <= thing[1] <= MOST_MORE


def is_zone(thing):
    if not isinstance(thing, tuple) or not 1 <= len(thing) <= MOST_ROWS:
        return False
    if not all([is_row(part) for part in thing]):
        return False
    moments = [moment for moment, more in thing[1:]]
    # Only whole numbers can be put in order.
    return thing[0][0] is None and all([is_whole(moment) for moment in moments]) and is_rising(moments)


def refuse_no_zone(thing):
    if not is_zone(thing):
        raise NoZone("this is no zone")


def shown_at(zone, moment):
    refuse_no_zone(zone)
    added = zone[0][1]
    for begin, more in zone[1:]:
        if begin <= moment:
            added = more
    return moment + added


def jumps(zone):
    refuse_no_zone(zone)
    told = []
    for ahead, row in zip(zone, zone[1:]):
        if row[1] != ahead[1]:
            told.append((row[0], row[1] - ahead[1]))
    return told


def tidy_zone(zone):
    kept = [moment for moment, by in jumps(zone)]
    return zone[:1] + tuple([row for row in zone[1:] if row[0] in kept])


def between(one, other, moment):
    return shown_at(one, moment) - shown_at(other, moment)


def moments_shown(zone, shown):
    refuse_no_zone(zone)
    # A moment can be shown so only by what some row adds, though another row may hold at it.
    likely = sorted(set([shown - more for moment, more in zone]))
    return [moment for moment in likely if shown_at(zone, moment) == shown]


def first_shown(zone, shown):
    moments = moments_shown(zone, shown)
    if moments:
        return moments[0]
    # From one moment to the next what is shown rises by one but at jumps, so that it is a jump that passes it by.
    passing = [moment for moment, by in jumps(zone) if shown_at(zone, moment - 1) < shown < shown_at(zone, moment)]
    return passing[0]
