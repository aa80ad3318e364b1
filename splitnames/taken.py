"""Which names can be taken at some moment, while other processes are still on their way."""

from splitnames.checks import MOST_NAMES, check_count, check_names
from splitnames.counting import GREATEST_COUNT, walk_sets
from splitnames.grid import most_names
from splitnames.stages import stages_of, ways_on


def can_be_taken(count, names):
    """Return whether count processes can take the names of the list, and no others."""
    check_count(count, MOST_NAMES)
    check_names(names)
    return _is_enough(count, names)


def least_count(names):
    """Return the least number of processes that can take the names, or None if it is above 8."""
    check_names(names)
    for count in range(len(names), MOST_NAMES + 1):
        if _is_enough(count, names):
            return count
    return None


def next_names(count, names):
    """Return all other names that count processes can take together with those of the list."""
    check_count(count, MOST_NAMES)
    check_names(names)
    others = [name for name in range(most_names(count)) if name not in names]
    return [name for name in others if _is_enough(count, sorted(names + [name]))]


def full_sets(count, names):
    """Yield all possible name lists with count names that contain the list, in ascending order."""
    check_count(count, GREATEST_COUNT)
    check_names(names)
    # The caller may change the list before the next item is asked for.
    listed = list(names)
    for full in walk_sets(count):
        if _is_part(listed, full):
            yield full


def _is_enough(count, names):
    """Return whether the names are a part of a possible name list with count names."""
    # The stages end before the diagonal of the count, which nobody enters.
    if names[-1] >= most_names(count):
        return False
    return stages_of(count, names, _ways_on_or_end)[-1] != {}


def _ways_on_or_end(entered, listed):
    """Return each (right, down) that matters for a cell where others may stop, too."""
    if entered == 1:
        return [(0, 0)]
    # In a cell that is not listed only who is alone has to stop: several can go on so that no
    # fewer go right and no fewer go down than if one stopped, and more processes never hinder.
    return ways_on(entered, listed)


def _is_part(names, full):
    return [name for name in names if name not in full] == []
