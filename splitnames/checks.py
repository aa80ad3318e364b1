"""Checks of arguments that several files share."""

from splitnames.errors import InvalidCount, InvalidNames

MOST_NAMES = 8


def is_integer(value):
    """Return whether any value is an integer."""
    # For Python True and False are integers, for the document they are not.
    return isinstance(value, int) and not isinstance(value, bool)


def is_integer_within(value, least, greatest):
    """Return whether any value is an integer from least to greatest."""
    return is_integer(value) and least <= value <= greatest


def check_count(count, greatest):
    """Raise InvalidCount if the count is not an integer from 1 to greatest."""
    if not is_integer_within(count, 1, greatest):
        raise InvalidCount(f"a count is an integer from 1 to {greatest}")


def is_integer_list(value):
    """Return whether any value is a list of integers."""
    return isinstance(value, list) and [item for item in value if not is_integer(item)] == []


def is_name_list(value):
    """Return whether any value is a name list."""
    if not is_integer_list(value) or not 1 <= len(value) <= MOST_NAMES:
        return False
    last = -1
    for name in value:
        if name <= last:
            return False
        last = name
    return True


def check_names(names):
    """Raise InvalidNames if the value is not a name list."""
    if not is_name_list(names):
        raise InvalidNames(f"a name list is an ascending list of 1 to {MOST_NAMES} different integers from 0 on")


def check_names_in_any_order(names):
    """Raise InvalidNames if the value is not a list of the names of a name list, in any order."""
    # Other values than integers could not be sorted.
    if not is_integer_list(names) or not is_name_list(sorted(names)):
        raise InvalidNames(f"the names are a list of 1 to {MOST_NAMES} different integers from 0 on")
