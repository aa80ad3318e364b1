"""One splitter: its steps, its outcomes, and the results that are still open."""

from splitnames.checks import check_count, is_integer_within
from splitnames.errors import InvalidOutcome, InvalidSchedule, TooLarge

GREATEST_COUNT = 40
GREATEST_OPEN_COUNT = 5
RESULTS = ("down", "right", "stop")


class Splitter:
    """The shared variables of a splitter: X is `writer`, Y is `closed`."""

    def __init__(self):
        self.writer = None
        self.closed = False

    def perform(self, process, done):
        """Perform the step that follows the first `done` steps; return the result, or None."""
        if done == 0:
            self.writer = process
        elif done == 1:
            if self.closed:
                return "right"
        elif done == 2:
            self.closed = True
        elif self.writer == process:
            return "stop"
        else:
            return "down"
        return None


class SplitterRun:
    """A splitter with the steps done and the results of its processes."""

    def __init__(self, count):
        self.splitter = Splitter()
        self.done = [0] * count
        self.results = [None] * count

    def can_step(self, process):
        """Return whether any value is a process that has not finished."""
        return is_integer_within(process, 0, len(self.results) - 1) and self.results[process] is None

    def step(self, process):
        """Perform the next step of a process that has not finished."""
        self.results[process] = self.splitter.perform(process, self.done[process])
        self.done[process] += 1


def run_splitter(count, schedule):
    """Return the results of the processes after the schedule, None for those not finished."""
    return _run_after(count, schedule).results


def is_outcome(value):
    """Return whether any value is an outcome."""
    if not isinstance(value, list):
        return False
    for item in value:
        if not isinstance(item, str) or item not in RESULTS:
            return False
    if value.count("stop") > 1:
        return False
    # An empty list is refused here, too: no count is below 0.
    return value.count("right") < len(value) and value.count("down") < len(value)


def outcome_schedule(outcome):
    """Return a schedule with this outcome."""
    if not is_outcome(outcome):
        raise InvalidOutcome("the value is not an outcome")
    stopping = _processes_with(outcome, "stop")
    going_right = _processes_with(outcome, "right")
    # The one that stops is the last of them to write X, and all of them read
    # that Y is false before one of them writes true.
    entering = _processes_with(outcome, "down") + stopping
    first_steps = entering * 3
    right_steps = going_right * 2
    if stopping == []:
        # Those that go right overwrite X, so that nobody finds its own number.
        return first_steps + right_steps + entering
    return first_steps + entering + right_steps


def open_results(count, schedule):
    """Return for each process the results that it can have after more steps."""
    run = _run_after(count, schedule)
    if count > GREATEST_OPEN_COUNT:
        raise TooLarge(GREATEST_OPEN_COUNT)
    return [_open_results_of(run, process) for process in range(count)]


def perform_schedule(run, schedule):
    """Perform the steps of a schedule in a run, of one splitter or of the grid."""
    if not isinstance(schedule, list):
        raise InvalidSchedule("a schedule is a list")
    for process in schedule:
        if not run.can_step(process):
            raise InvalidSchedule("an item of the schedule is not a process that has not finished")
        run.step(process)


def _run_after(count, schedule):
    """Return the SplitterRun in which the schedule has been performed."""
    check_count(count, GREATEST_COUNT)
    run = SplitterRun(count)
    perform_schedule(run, schedule)
    return run


def _processes_with(outcome, result):
    return [process for process, told in enumerate(outcome) if told == result]


def _open_results_of(run, process):
    """Return the ascending list of the results that a process can have."""
    if run.results[process] is not None:
        return [run.results[process]]
    found = []
    if _can_go_down(run, process):
        found.append("down")
    if _can_go_right(run, process):
        found.append("right")
    if _can_stop(run, process):
        found.append("stop")
    return found


def _can_go_right(run, process):
    if run.done[process] > 1:
        return False
    # While Y is false nobody has finished, so any other process can still write true.
    return run.splitter.closed or len(run.results) > 1


def _can_reach_last_step(run, process):
    return run.done[process] > 1 or not run.splitter.closed


def _can_stop(run, process):
    if not _can_reach_last_step(run, process):
        return False
    # A process that has written X never writes it again.
    return run.done[process] == 0 or run.splitter.writer == process


def _can_go_down(run, process):
    if not _can_reach_last_step(run, process):
        return False
    if run.done[process] > 0 and run.splitter.writer != process:
        return True
    # X is or will be its own number; only one that has not begun can still overwrite it.
    waiting = [other for other, done in enumerate(run.done) if done == 0 and other != process]
    return waiting != []
