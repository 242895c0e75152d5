"""How many meetings of a sheet go on, and when."""

from daysheet.sheets import names_at


def load_at(sheet, moment):
    return len(names_at(sheet, moment))


def most_at_once(sheet):
    # The load rises only where a meeting begins, so no other moments need a look.
    return max([load_at(sheet, begin) for name, begin, end in sheet], default=0)


def tight_moment(sheet):
    most = most_at_once(sheet)
    tight = [begin for name, begin, end in sheet if load_at(sheet, begin) == most]
    return min(tight, default=None)


def joined(rows):
    told = []
    for begin, end, many in rows:
        if told and told[-1][2] == many:
            told[-1] = (told[-1][0], end, many)
        else:
            told.append((begin, end, many))
    return told


def steps(sheet):
    begins = [begin for name, begin, end in sheet]
    ends = [end for name, begin, end in sheet]
    cuts = sorted(set(begins + ends))
    # The load may stay the same across a cut, where one ends and another begins.
    return joined([(begin, end, load_at(sheet, begin)) for begin, end in zip(cuts, cuts[1:])])


def busy(sheet):
    rows = joined([(begin, end, min(many, 1)) for begin, end, many in steps(sheet)])
    return [(begin, end) for begin, end, some in rows if some == 1]


def worth_of(sheet):
    return sum([end - begin for name, begin, end in sheet])
