"""Schedules that lead each process to a wanted name."""

from splitnames.checks import check_names_in_any_order
from splitnames.errors import InvalidSchedule
from splitnames.grid import cell_of, name_of
from splitnames.runs import names_after
from splitnames.sets import routing_for
from splitnames.splitters import outcome_schedule


def schedule_for(names):
    """Return a schedule after which process i has the name with index i."""
    check_names_in_any_order(names)
    schedule, found = _schedule_along(routing_for(sorted(names)), len(names))
    # Who gets which name is known only now, so the processes get their numbers last.
    return [names.index(found[process]) for process in schedule]


def gives_names(names, value):
    """Return whether any value is a schedule after which process i has the name with index i."""
    check_names_in_any_order(names)
    try:
        return names_after(len(names), value) == names
    except InvalidSchedule:
        return False


def _schedule_along(routing, count):
    """Return a schedule of count processes that follows a routing, and a dict of their names."""
    schedule = []
    found = {}
    waiting = {0: list(range(count))}
    # Processes go on to greater names only, so all that enter a cell are there when its row comes.
    for name, entered, right, down in routing:
        here = waiting[name]
        stopping = entered - right - down
        schedule.extend(_schedule_through(here, stopping, right))
        for process in here[:stopping]:
            found[process] = name
        at_right, at_down = cell_of(name)
        _send(waiting, name_of(at_right + 1, at_down), here[stopping:stopping + right])
        _send(waiting, name_of(at_right, at_down + 1), here[stopping + right:])
    return schedule, found


def _schedule_through(processes, stopping, right):
    """Return a schedule of one cell: the first ones stop, the next ones go right, all others down."""
    down = len(processes) - stopping - right
    outcome = ["stop"] * stopping + ["right"] * right + ["down"] * down
    return [processes[at] for at in outcome_schedule(outcome)]


def _send(waiting, name, processes):
    waiting[name] = waiting.get(name, []) + processes
