"""The refusals of the program, one class for each kind."""


class ClaimError(ValueError):
    """Any refusal."""


class NoPlan(ClaimError):
    """What was handed in is no plan."""


class NoDamage(ClaimError):
    """What was handed in is no damage, or no amount of one."""


class NoYear(ClaimError):
    """What was handed in is no year."""


class Known(ClaimError):
    """A damage of this number stands there already."""


class Unknown(ClaimError):
    """No damage of this number stands there."""


class Closed(ClaimError):
    """The year is closed."""


class NotClosed(ClaimError):
    """The year is not closed."""
