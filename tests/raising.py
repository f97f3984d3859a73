"""What functions and methods raise, for the tests."""

from towerduel.errors import MatchError, NotationError


def fault_of(read, *told):
    """The line of the NotationError that reading raises; None if it raises none."""
    try:
        read(*told)
    except NotationError as error:
        return error.line
    return None


def why_not(method, *told):
    """The word of the MatchError that is raised; None if none is."""
    try:
        method(*told)
    except MatchError as error:
        return error.why
    return None
