"""Rooms for the meetings of a sheet: as many as are needed, and great enough for their heads."""

from daysheet.columns import columns, groups, in_laying_order, part_of
from daysheet.errors import TooMany
from daysheet.loads import most_at_once


def rooms_needed(sheet):
    return most_at_once(sheet)


def room_plan(sheet, many):
    if many < rooms_needed(sheet):
        raise TooMany("more meetings go on at once than there are rooms")
    return columns(sheet)


def changes_in(meetings):
    ordered = in_laying_order(meetings)
    return len([one for one, other in zip(ordered, ordered[1:]) if one[2] < other[1]])


def room_changes(sheet, plan, rooms):
    told = 0
    for room in range(rooms):
        told += changes_in([meeting for meeting in sheet if plan.get(meeting[0]) == room])
    return told


# A step of the search for a plan: the shelves above are filled, the one at hand is being filled; of the other
# meetings some wait to be looked at for it, and some are left for the shelves below.
class Filling:
    def __init__(self, filled, taken, waiting, left):
        self.filled = filled
        self.taken = taken
        self.waiting = waiting
        self.left = left

    def with_first(self):
        return Filling(self.filled, self.taken + self.waiting[:1], self.waiting[1:], self.left)

    def without_first(self):
        return Filling(self.filled, self.taken, self.waiting[1:], self.left + self.waiting[:1])

    def a_shelf_on(self):
        return Filling(self.filled + (self.taken,), (), self.left, ())

    def mark(self):
        return (len(self.filled), self.taken, self.waiting, self.left)


def by_heads(sheet, heads):
    return tuple(sorted(sheet, key=lambda meeting: (-heads[meeting[0]], meeting)))


def shelves_of(sheet, sizes, heads):
    # Rooms that are great enough for the same meetings are alike: a shelf holds such ones, the greatest come first.
    shelves = []
    above = None
    for least in reversed(sorted(set([heads[meeting[0]] for meeting in sheet]))):
        rooms = [room for room, size in enumerate(sizes) if least <= size and (above is None or size < above)]
        shelves.append((least, rooms))
        above = least
    return shelves


def may_fit(shelves, meetings, heads):
    # Where more go on at once than there are rooms that are great enough, no search is needed.
    many = 0
    for least, rooms in shelves:
        many += len(rooms)
        if most_at_once([meeting for meeting in meetings if heads[meeting[0]] >= least]) > many:
            return False
    return True


def ways_for_first(shelves, heads, filling):
    least = shelves[len(filling.filled)][0]
    rooms = shelves[len(filling.filled)][1]
    below = shelves[len(filling.filled) + 1:]
    told = []
    # What is too great for all shelves below can't be left for them.
    if heads[filling.waiting[0][0]] < least and may_fit(below, filling.without_first().left, heads):
        told.append(filling.without_first())
    if most_at_once(filling.with_first().taken) <= len(rooms):
        told.append(filling.with_first())
    return told


def ways_on(shelves, heads, filling):
    if filling.waiting:
        return ways_for_first(shelves, heads, filling)
    rooms = shelves[len(filling.filled)][1]
    # With one more on this shelf fewer are left, which can only help; that way is looked at by itself.
    if any([most_at_once(filling.taken + (meeting,)) <= len(rooms) for meeting in filling.left]):
        return []
    return [filling.a_shelf_on()]


def filled_shelves(shelves, sheet, heads):
    seen = {}
    stack = [Filling((), (), by_heads(sheet, heads), ())]
    while stack:
        filling = stack.pop()
        if len(filling.filled) == len(shelves):
            return filling.filled
        for way in ways_on(shelves, heads, filling):
            # Whatever lies on the shelves above, from here on the search would be the same.
            if way.mark() not in seen:
                seen[way.mark()] = True
                stack.append(way)
    return None


def group_plan(sheet, sizes, heads):
    shelves = shelves_of(sheet, sizes, heads)
    filled = filled_shelves(shelves, sheet, heads) if may_fit(shelves, sheet, heads) else None
    if filled is None:
        return None
    plan = {}
    for shelf, meetings in zip(shelves, filled):
        for name, column in columns(meetings).items():
            plan[name] = shelf[1][column]
    return plan


def fitting_plan(sheet, sizes, heads):
    told = {}
    # Groups share no moment, so that each may be given rooms by itself.
    for group in groups(sheet):
        plan = group_plan(part_of(sheet, group), sizes, heads)
        if plan is None:
            return None
        told.update(plan)
    return told
