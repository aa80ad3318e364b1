"""The way of the processes through the grid, step by step."""

from splitnames.checks import check_count, is_integer_within
from splitnames.grid import name_of
from splitnames.splitters import GREATEST_COUNT, Splitter, perform_schedule


class Walk:
    """The cells of the grid, and for each process its cell, its steps there and its name."""

    def __init__(self, count):
        self.cells = {}
        self.places = [(0, 0)] * count
        self.done = [0] * count
        self.names = [None] * count
        self.steps = []
        self.reports = []

    def can_step(self, process):
        """Return whether any value is a process that has not finished."""
        return is_integer_within(process, 0, len(self.names) - 1) and self.names[process] is None

    def step(self, process):
        """Perform the next step of a process that has not finished.

        Return None, or its result and the name of the cell in which it stops or into which it goes.
        """
        result = self._splitter_at(self.places[process]).perform(process, self.done[process])
        self.steps.append(process)
        self.done[process] += 1
        if result is None:
            return None
        name = self._end_in_cell(process, result)
        self.reports.append((process, result, name))
        return result, name

    def _splitter_at(self, place):
        # The grid has no end, so a cell gets its splitter when it is first entered.
        if place not in self.cells:
            self.cells[place] = Splitter()
        return self.cells[place]

    def _end_in_cell(self, process, result):
        """Stop a process or move it into the next cell; return the name of its cell."""
        right, down = self.places[process]
        if result == "stop":
            self.names[process] = name_of(right, down)
            return self.names[process]
        if result == "right":
            right += 1
        else:
            down += 1
        self.places[process] = (right, down)
        self.done[process] = 0
        return name_of(right, down)


def walk_after(count, schedule):
    """Return the Walk of count processes in which the schedule has been performed."""
    check_count(count, GREATEST_COUNT)
    walk = Walk(count)
    perform_schedule(walk, schedule)
    return walk
