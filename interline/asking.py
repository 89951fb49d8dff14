"""What functions ask of their arguments."""

from interline.errors import ArgumentError
from interline.kinds import is_known


def require(holds, reason):
    """Raise ArgumentError with a reason unless something holds."""
    if not holds:
        raise ArgumentError(reason)


def require_name(value, table, reason):
    """Raise ArgumentError with a reason unless a value is a name in a table."""
    require(is_known(value, table), reason)
