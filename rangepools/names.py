"""Names of pools, goods, positions and people."""

from rangepools.errors import BadName


def is_name(given):
    """Whether a value is a string of 1 to 12 letters from a to z."""
    if not isinstance(given, str) or len(given) > 12:
        return False
    return given.isascii() and given.isalpha() and given.islower()


def as_name(given):
    """A name as it is."""
    if not is_name(given):
        raise BadName(given)
    return given


def ascending_names(names):
    """The list of the different ones of some names, the least first."""
    return sorted(set(names))
