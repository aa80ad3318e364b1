"""The splitter of point [6] written down a second time, to hold the program against."""

START = (None, False)


def advance(shared, process, done):
    """One step: returns the shared variables after it and the result or None."""
    x, y = shared
    if done == 0:
        return (process, y), None
    if done == 1:
        return (x, y), "right" if y else None
    if done == 2:
        return (x, True), None
    return (x, y), "stop" if x == process else "down"


def play(count, schedule):
    """The results after a schedule, for any count; ValueError if the schedule is wrong."""
    shared = START
    done = [0] * count
    results = [None] * count
    for process in schedule:
        if process not in range(count) or results[process] is not None:
            raise ValueError(process)
        shared, results[process] = advance(shared, process, done[process])
        done[process] += 1
    return results


def states(count):
    """All states that can be reached, each with one schedule that leads to it.

    A state is (shared variables, steps done by each, results of each).
    """
    first = (START, (0,) * count, (None,) * count)
    found = {first: []}
    waiting = [first]
    for state in waiting:
        for process, after in successors(state):
            if after not in found:
                found[after] = found[state] + [process]
                waiting.append(after)
    return found


def successors(state):
    shared, done, results = state
    told = []
    for process in range(len(done)):
        if results[process] is None:
            after, result = advance(shared, process, done[process])
            told.append((process, (after, put(done, process, done[process] + 1), put(results, process, result))))
    return told


def put(row, at, value):
    return row[:at] + (value,) + row[at + 1:]


def open_by_search(count):
    """For each state the sets of results that the processes have in some later state."""
    found = states(count)
    told = {}
    # Each step makes the schedule longer by 1, so later states come first here.
    for state in sorted(found, key=lambda state: -sum(state[1])):
        sets = [set() if result is None else {result} for result in state[2]]
        for _, after in successors(state):
            for own, later in zip(sets, told[after]):
                own |= later
        told[state] = sets
    return found, told
