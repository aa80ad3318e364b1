"""Runs of the grid that can be continued and taken back."""

from splitnames.errors import InvalidProcess, NothingToUndo
from splitnames.grid import name_of
from splitnames.texts import read_run
from splitnames.walks import walk_after


def names_after(count, schedule):
    """Return the names of the processes after the schedule, None for those not finished."""
    return walk_after(count, schedule).names


class Run:
    """A run of the grid."""

    MOST = 40

    def __init__(self, count):
        self._walk = walk_after(count, [])
        # For each change that can be undone, the number of the steps before it.
        self._marks = []

    @classmethod
    def read(cls, text):
        """Return the run with this text, with nothing to undo."""
        count, schedule = read_run(text)
        run = cls(count)
        run._walk = walk_after(count, schedule)
        return run

    def step(self, process):
        """Perform the next step of a process; return None, or its result and a name."""
        return self.play(process)[0]

    def play(self, *processes):
        """Perform the steps of a schedule as one change; return what they give."""
        mark = len(self._walk.steps)
        told = []
        for process in processes:
            if not self._walk.can_step(process):
                self._return_to(mark)
                raise InvalidProcess("the value is not a process that has not finished")
            told.append(self._walk.step(process))
        if told != []:
            self._marks.append(mark)
        return told

    def finish(self, process):
        """Perform steps of one process until it has finished, as one change; return its name."""
        if not self._walk.can_step(process):
            raise InvalidProcess("the value is not a process that has not finished")
        self._marks.append(len(self._walk.steps))
        while self._walk.can_step(process):
            self._walk.step(process)
        return self._walk.names[process]

    def undo(self):
        """Revert the last change that was not reverted."""
        if self._marks == []:
            raise NothingToUndo("there is no change to revert")
        self._return_to(self._marks.pop())

    @property
    def process_count(self):
        """The number of processes."""
        return len(self._walk.names)

    @property
    def steps_done(self):
        """The schedule so far."""
        return list(self._walk.steps)

    @property
    def names_now(self):
        """The names of the processes, None for those that have not finished."""
        return list(self._walk.names)

    @property
    def places_now(self):
        """For each process the name of its cell and the number of its steps in it."""
        walk = self._walk
        return [(name_of(right, down), done) for (right, down), done in zip(walk.places, walk.done)]

    def events(self):
        """Yield (process, result, name) for each step so far that gave a result."""
        for report in self._walk.reports:
            yield report

    def __len__(self):
        return len(self._walk.steps)

    def __eq__(self, other):
        if not isinstance(other, Run):
            return False
        return self.process_count == other.process_count and self.steps_done == other.steps_done

    def _return_to(self, mark):
        """Take back all steps but the first ones, as many as the mark says."""
        if mark < len(self._walk.steps):
            # A step overwrites shared variables, so the steps that stay are performed anew.
            self._walk = walk_after(self.process_count, self._walk.steps[:mark])
