"""The refusals. Each stands straight under WalkError, so that none is taken for another."""


class WalkError(ValueError):
    pass


# A run has a number that is no rule's, or whose rule does not fit.
class NoStep(WalkError):
    pass


# A machine has an arrow that leads to a room.
class NotPlain(WalkError):
    pass


# No run leads there.
class NoWay(WalkError):
    pass


# The shortest run is longer than the asker wants to have it told.
class TooLong(WalkError):
    pass


# Some run goes on without end.
class Endless(WalkError):
    pass


# What is handed in is no text, or none of the form that is asked for.
class NoText(WalkError):
    pass


# Two procedures have one name.
class Twice(WalkError):
    pass


# No procedure has the name.
class NoName(WalkError):
    pass


# There is no such shared or own value.
class NoValue(WalkError):
    pass


# The procedure has no such row.
class NoRow(WalkError):
    pass


# What is to be kept out is come to.
class Reached(WalkError):
    pass
