"""Sheets written as texts, and read back."""

from daysheet.days import DAY, day_of
from daysheet.errors import NoText
from daysheet.sheets import LAST_END, is_sheet


def moment_text(moment):
    day = day_of(moment)
    place = moment % DAY
    return f"{day}:{place}"


def line_of(meeting):
    name = meeting[0]
    begin = moment_text(meeting[1])
    end = moment_text(meeting[2])
    return f"{name} {begin} {end}\n"


def written(sheet):
    return "".join([line_of(meeting) for meeting in sheet])


def row_of(line, moments):
    parts = line.split(" ")
    return tuple(parts[:1] + [moments.get(part) for part in parts[1:]])


def read(text):
    if not isinstance(text, str):
        raise NoText("this is no text")
    # Moments are looked up by their writings, so that no other writing of a number is let by.
    moments = dict([(moment_text(moment), moment) for moment in range(LAST_END + 1)])
    lines = text.split("\n")
    sheet = tuple([row_of(line, moments) for line in lines[:-1]])
    # Behind the last line feed nothing may stand.
    if lines[-1] != "" or not is_sheet(sheet):
        raise NoText("this is not the writing of a sheet")
    return sheet
