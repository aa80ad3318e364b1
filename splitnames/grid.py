"""The names of the cells of the grid."""

from math import isqrt

from splitnames.checks import check_count, is_integer_within
from splitnames.errors import InvalidCell, InvalidName

GREATEST_COORDINATE = 10 ** 15
GREATEST_NAME = 10 ** 30
GREATEST_COUNT = 10 ** 15


def name_of(right, down):
    """Return the name of the cell (right, down)."""
    _check_coordinate(right)
    _check_coordinate(down)
    return _cells_before(right + down) + right


def cell_of(name):
    """Return the tuple (right, down) of the cell with this name."""
    if not is_integer_within(name, 0, GREATEST_NAME):
        raise InvalidName("a name is an integer from 0 to 10 ** 30")
    diagonal = _diagonal_of(name)
    right = name - _cells_before(diagonal)
    return right, diagonal - right


def most_names(count):
    """Return how many names some schedule of count processes gives to one of them."""
    check_count(count, GREATEST_COUNT)
    # The cells that can be reached are those of the diagonals 0 to count - 1.
    return _cells_before(count)


def _check_coordinate(value):
    if not is_integer_within(value, 0, GREATEST_COORDINATE):
        raise InvalidCell("a coordinate is an integer from 0 to 10 ** 15")


def _cells_before(diagonal):
    """Return the number of cells on the diagonals before this one."""
    return diagonal * (diagonal + 1) // 2


def _diagonal_of(name):
    # The first name on diagonal t is t * (t + 1) / 2, and 8 times it plus 1 is
    # (2 * t + 1) ** 2; so the whole root finds the last diagonal that has begun.
    return (isqrt(8 * name + 1) - 1) // 2
