"""The refusals of the program, one class for each."""


# Any refusal: whoever takes this one takes them all.
class SheetError(ValueError):
    pass


# No meeting of the sheet has the name.
class NoMeeting(SheetError):
    pass


# The name is given already.
class Taken(SheetError):
    pass


# No meeting can have the times.
class NoTime(SheetError):
    pass


# There would be more than there may be.
class TooMany(SheetError):
    pass


# The thing is no zone.
class NoZone(SheetError):
    pass


# The text is not the writing of anything.
class NoText(SheetError):
    pass


# The thing is no sheet, or none has the name.
class NoSheet(SheetError):
    pass


# There is no step to take back, or to do again.
class NoBack(SheetError):
    pass
