"""Which name lists are possible, and how the processes get there."""

from splitnames.checks import check_names, is_integer
from splitnames.errors import Impossible
from splitnames.grid import cell_of, name_of
from splitnames.stages import stages_of, ways_on


def is_possible(names):
    """Return whether the name list is possible."""
    return stuck_diagonal(names) is None


def stuck_diagonal(names):
    """Return the diagonal at which the name list is stuck, or None if it is possible."""
    check_names(names)
    return _stuck_in(_stages_of(names))


def routing_for(names):
    """Return a routing of the name list."""
    check_names(names)
    stages = _stages_of(names)
    diagonal = _stuck_in(stages)
    if diagonal is not None:
        raise Impossible(diagonal)
    return _routing_in(stages)


def is_routing(names, value):
    """Return whether any value is a routing of the name list."""
    check_names(names)
    if not isinstance(value, list):
        return False
    coming = {0: len(names)}
    last = -1
    for item in value:
        if not _is_routing_item(item) or item[0] <= last:
            return False
        last, entered, right, down = item
        # Processes go on to greater names only, so all that come here are known by now.
        if coming.pop(last, 0) != entered or entered == 0:
            return False
        if (right, down) not in ways_on(entered, last in names):
            return False
        _send_on(coming, last, right, down)
    # If nobody is on the way, as many have stopped as there are names: one in each listed cell.
    return coming == {}


def _stages_of(names):
    # A cell of diagonal t is entered by at most as many processes as names less t, and
    # one alone cannot go on; so who has not stopped in these stages is stuck in them.
    return stages_of(len(names), names, ways_on)


def _stuck_in(stages):
    """Return the diagonal of the empty stage, or None if there is none."""
    if stages[-1] == {}:
        return len(stages) - 1
    return None


def _routing_in(stages):
    """Return the routing that leads through all stages."""
    routing = []
    # After the last stage all have stopped, so this row is the only one.
    row = (0,) * (len(stages) + 1)
    for diagonal, stage in reversed(list(enumerate(stages))):
        way = stage[row]
        row = tuple([entered for entered, right, down in way])
        for at, (entered, right, down) in enumerate(way):
            if entered > 0:
                routing.append((name_of(at, diagonal - at), entered, right, down))
    return sorted(routing)


def _is_routing_item(value):
    if not isinstance(value, tuple) or len(value) != 4:
        return False
    return [item for item in value if not is_integer(item)] == []


def _send_on(coming, name, right, down):
    """Add those that go on from a cell to the processes that come to the next cells."""
    at_right, at_down = cell_of(name)
    _send(coming, name_of(at_right + 1, at_down), right)
    _send(coming, name_of(at_right, at_down + 1), down)


def _send(coming, name, many):
    if many > 0:
        coming[name] = coming.get(name, 0) + many
