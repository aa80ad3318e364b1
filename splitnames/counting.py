"""The possible name lists with as many names, counted and numbered."""

from splitnames.checks import check_count, check_names, is_integer_within
from splitnames.errors import Impossible, InvalidNumber, TooLarge
from splitnames.grid import name_of
from splitnames.sets import stuck_diagonal
from splitnames.stages import row_with_cell, ways_on

GREATEST_COUNT = 5


def count_sets(count):
    """Return the number of possible name lists with so many names."""
    check_count(count, GREATEST_COUNT)
    return len(_possible_lists(count))


def nth_set(count, number):
    """Return the possible name list that has this number among those with so many names."""
    check_count(count, GREATEST_COUNT)
    lists = _possible_lists(count)
    if not is_integer_within(number, 0, len(lists) - 1):
        raise InvalidNumber(f"the numbers of these name lists are 0 to {len(lists) - 1}")
    return lists[number]


def set_number(names):
    """Return the number of a possible name list among those with as many names."""
    check_names(names)
    if len(names) > GREATEST_COUNT:
        raise TooLarge(GREATEST_COUNT)
    diagonal = stuck_diagonal(names)
    if diagonal is not None:
        raise Impossible(diagonal)
    return _possible_lists(len(names)).index(names)


def walk_sets(count):
    """Yield all possible name lists with so many names in ascending order."""
    check_count(count, GREATEST_COUNT)
    for names in _possible_lists(count):
        yield names


def _possible_lists(count):
    """Return all possible name lists with so many names in ascending order."""
    # For each row in which the others come to a diagonal, the names that are taken before it.
    found = {(count,): {(): True}}
    # No process comes to the diagonal of the count, so all have stopped after the one before.
    for diagonal in range(count):
        found = _found_after(found, diagonal)
    return sorted([list(names) for taken in found.values() for names in taken])


def _found_after(found, diagonal):
    """Return what is found at the next diagonal."""
    later_found = {}
    for row, taken in found.items():
        for later, stopped in _ends_of(row, name_of(0, diagonal)):
            known = later_found.setdefault(later, {})
            for names in taken:
                known[names + stopped] = True
    return later_found


def _ends_of(row, first):
    """Return the tuples (row of the next diagonal, names of this one) that can follow a row."""
    ends = {((0,), ()): True}
    for at, entered in enumerate(row):
        longer = {}
        for later, stopped in ends:
            for right, down in ways_on(entered, False):
                longer[(row_with_cell(later, right, down), stopped)] = True
            for right, down in ways_on(entered, True):
                longer[(row_with_cell(later, right, down), stopped + (first + at,))] = True
        ends = longer
    return list(ends)
