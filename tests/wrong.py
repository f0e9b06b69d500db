"""What is told by errors, for tests."""

from allendless.errors import BadText, TooGreat


def position_of(function, *arguments):
    """The position of the BadText that a call raises."""
    try:
        function(*arguments)
    except BadText as error:
        return error.position
    raise AssertionError("no BadText")


def what_of(function, *arguments):
    """The word of the TooGreat that a call raises; None if it answers."""
    try:
        function(*arguments)
    except TooGreat as error:
        return error.what
    return None


def told_by(function, *arguments):
    """The class of the error that a call raises, and its fields."""
    try:
        function(*arguments)
    except ValueError as error:
        return (type(error).__name__, *vars(error).values())
    raise AssertionError("no error")
