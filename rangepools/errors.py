"""The errors of the package; each tells by its class what was wrong, and by its attribute with which value."""


class PoolError(ValueError):
    """Any error of this package."""


class ByZero(PoolError):
    """A quotient by 0."""


class BadText(PoolError):
    """A string that is not the text of what was to be read."""


class BadRange(PoolError):
    """A range whose ends do not fit."""


class Lacking(PoolError):
    """A profile with less size than is to be taken away from it."""


class BadRoute(PoolError):
    """A list of names that is not such a route."""


class BadSplit(PoolError):
    """A split without exactly one item for each pool."""


class BadRing(PoolError):
    """A list that is not a ring."""


class TooMuch(PoolError):
    """An amount of which something would be given back."""


class UnlikeFees(PoolError):
    """Pools whose fees are not all equal."""


class BadPrices(PoolError):
    """A dict that is not one of prices for these goods."""


class NothingToUndo(PoolError):
    """There is no step to take back."""


class NothingToRedo(PoolError):
    """There is no step to make again."""


class BadNumber(PoolError):
    """A value that is not a number."""

    def __init__(self, given):
        self.given = given


class BadSize(PoolError):
    """A value that cannot be the size."""

    def __init__(self, given):
        self.given = given


class BadRoot(PoolError):
    """A value that is not a root price."""

    def __init__(self, given):
        self.given = given


class BadFee(PoolError):
    """A value that is not a fee."""

    def __init__(self, given):
        self.given = given


class BadGood(PoolError):
    """A value that does not name the goods that are put in."""

    def __init__(self, given):
        self.given = given


class BadAmount(PoolError):
    """A value that cannot be the amount."""

    def __init__(self, given):
        self.given = given


class NoWay(PoolError):
    """A root price to which no trade leads."""

    def __init__(self, given):
        self.given = given


class BadName(PoolError):
    """A value that is not a name."""

    def __init__(self, given):
        self.given = given


class InUse(PoolError):
    """A name that something else has already."""

    def __init__(self, given):
        self.given = given


class NoPosition(PoolError):
    """A value that is not the name of a position."""

    def __init__(self, given):
        self.given = given


class NoPool(PoolError):
    """A value that is not the name of a pool."""

    def __init__(self, given):
        self.given = given


class BadWeb(PoolError):
    """The name of a pool that does not join two goods."""

    def __init__(self, given):
        self.given = given


class NoGood(PoolError):
    """A value that is not one of the goods."""

    def __init__(self, given):
        self.given = given


class BadShare(PoolError):
    """A value that is not a share."""

    def __init__(self, given):
        self.given = given


class BadDeed(PoolError):
    """A value that is not a deed."""

    def __init__(self, given):
        self.given = given


class Short(PoolError):
    """A person who has less than is to be brought in."""

    def __init__(self, given):
        self.given = given


class BadLine(PoolError):
    """The number of a line that is not a step, or whose step raises an error."""

    def __init__(self, line):
        self.line = line
