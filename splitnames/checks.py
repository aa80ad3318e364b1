"""Checks of arguments that several files share."""

from splitnames.errors import InvalidCount


def is_integer_within(value, least, greatest):
    """Return whether any value is an integer from least to greatest."""
    # For Python True and False are integers, for the document they are not.
    if isinstance(value, bool) or not isinstance(value, int):
        return False
    return least <= value <= greatest


def check_count(count, greatest):
    """Raise InvalidCount if the count is not an integer from 1 to greatest."""
    if not is_integer_within(count, 1, greatest):
        raise InvalidCount(f"a count is an integer from 1 to {greatest}")
