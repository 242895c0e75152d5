"""Binders of sheets by names, which go back and forth step by step, and their texts."""

from daysheet.comparing import merged, shifted
from daysheet.errors import NoBack, NoSheet, NoText
from daysheet.sheets import is_name, is_rising, is_sheet, with_meeting, without_meeting
from daysheet.texts import read, written


class Binder:
    def __init__(self):
        self.sheets = {}
        # Each step is (word, name, sheet ahead of it, sheet behind it), with None where none has the name.
        self.done = []
        self.undone = []

    def put(self, name, sheet):
        if sheet is None:
            self.sheets.pop(name)
        else:
            self.sheets[name] = sheet

    # Whatever may be refused is refused ahead of this, so that a refusal changes nothing.
    def carry_out(self, word, name, sheet):
        self.done.append((word, name, self.sheets.get(name), sheet))
        self.undone = []
        self.put(name, sheet)
        return sheet

    def lay(self, name, sheet):
        if not is_name(name) or not is_sheet(sheet):
            raise NoSheet("this is no sheet, or no name")
        had = name in self.sheets
        self.carry_out("lay", name, sheet)
        return had

    def sheet_of(self, name):
        # Only of names it is sure that a dict can be asked for them.
        if not is_name(name) or name not in self.sheets:
            raise NoSheet("no sheet has this name")
        return self.sheets[name]

    def take(self, name):
        sheet = self.sheet_of(name)
        self.carry_out("take", name, None)
        return sheet

    def add(self, name, label, begin, end):
        return self.carry_out("add", name, with_meeting(self.sheet_of(name), label, begin, end))

    def drop(self, name, label):
        return self.carry_out("drop", name, without_meeting(self.sheet_of(name), label))

    def shift(self, name, by):
        return self.carry_out("shift", name, shifted(self.sheet_of(name), by))

    def merge(self, name, other):
        return self.carry_out("merge", name, merged(self.sheet_of(name), self.sheet_of(other)))

    def names(self):
        return sorted(self.sheets)

    def back(self):
        if not self.done:
            raise NoBack("there is no step to take back")
        step = self.done.pop()
        self.undone.append(step)
        self.put(step[1], step[2])
        return step[0]

    def forth(self):
        if not self.undone:
            raise NoBack("there is no step to do again")
        step = self.undone.pop()
        self.done.append(step)
        self.put(step[1], step[3])
        return step[0]

    def marks(self):
        return (len(self.done), len(self.undone))

    def twin(self):
        # Steps and sheets are never changed themselves, so that only what holds them is made anew.
        other = Binder()
        other.sheets = dict(self.sheets)
        other.done = list(self.done)
        other.undone = list(self.undone)
        return other


def sheet_text(binder, name):
    sheet = written(binder.sheet_of(name))
    return f"[{name}]\n{sheet}"


def binder_text(binder):
    return "".join([sheet_text(binder, name) for name in binder.names()])


def named_sheet(text):
    parts = text.partition("]\n")
    if not is_name(parts[0]) or parts[1] == "":
        raise NoText("no line of a name begins here")
    return (parts[0], read(parts[2]))


def read_binder(text):
    if not isinstance(text, str):
        raise NoText("this is no text")
    # No sheet's writing has a bracket, so that each one begins a new name.
    parts = text.split("[")
    rows = [named_sheet(part) for part in parts[1:]]
    if parts[0] != "" or not is_rising([name for name, sheet in rows]):
        raise NoText("this is not the writing of a binder")
    binder = Binder()
    binder.sheets = dict(rows)
    return binder
