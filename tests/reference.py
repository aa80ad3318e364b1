"""The splitter, the grid and the rules of point [12] written down a second time, to hold the program against."""

import itertools
import random

START = (None, False)


def advance(shared, process, done):
    """One step: returns the shared variables after it and the result or None."""
    x, y = shared
    if done == 0:
        return (process, y), None
    if done == 1:
        return (x, y), "right" if y else None
    if done == 2:
        return (x, True), None
    return (x, y), "stop" if x == process else "down"


def play(count, schedule):
    """The results after a schedule, for any count; ValueError if the schedule is wrong."""
    shared = START
    done = [0] * count
    results = [None] * count
    for process in schedule:
        if process not in range(count) or results[process] is not None:
            raise ValueError(process)
        shared, results[process] = advance(shared, process, done[process])
        done[process] += 1
    return results


def states(count):
    """All states that can be reached, each with one schedule that leads to it.

    A state is (shared variables, steps done by each, results of each).
    """
    first = (START, (0,) * count, (None,) * count)
    found = {first: []}
    waiting = [first]
    for state in waiting:
        for process, after in successors(state):
            if after not in found:
                found[after] = found[state] + [process]
                waiting.append(after)
    return found


def successors(state):
    shared, done, results = state
    told = []
    for process in range(len(done)):
        if results[process] is None:
            after, result = advance(shared, process, done[process])
            told.append((process, (after, put(done, process, done[process] + 1), put(results, process, result))))
    return told


def put(row, at, value):
    return row[:at] + (value,) + row[at + 1:]


def open_by_search(count):
    """For each state the sets of results that the processes have in some later state."""
    found = states(count)
    told = {}
    # Each step makes the schedule longer by 1, so later states come first here.
    for state in sorted(found, key=lambda state: -sum(state[1])):
        sets = [set() if result is None else {result} for result in state[2]]
        for _, after in successors(state):
            for own, later in zip(sets, told[after]):
                own |= later
        told[state] = sets
    return found, told


# The grid of points [8] to [10], in the same way. A cell is a tuple (right, down).

def label(cell):
    """Point [9], by counting the cells of the diagonals before."""
    right, down = cell
    return sum(range(right + down + 1)) + right


def walk(count, schedule):
    """The steps of a schedule one by one: yields (process, cell of the step, result or None, cell after it)."""
    shared = {}
    places = {process: [(0, 0), 0] for process in range(count)}
    for process in schedule:
        cell, done = places[process]
        shared[cell], result = advance(shared.get(cell, START), process, done)
        after = move(cell, result)
        if result == "stop":
            del places[process]
        else:
            places[process] = [after, done + 1 if result is None else 0]
        yield process, cell, result, after


def move(cell, result):
    right, down = cell
    return {"right": (right + 1, down), "down": (right, down + 1)}.get(result, cell)


def grid_play(count, schedule):
    """(names, places, events) after a schedule of the grid; KeyError if a process has finished already."""
    names = [None] * count
    # The name of the cell and the number of the steps in it.
    places = [(0, 0)] * count
    events = []
    for process, _, result, after in walk(count, schedule):
        places[process] = (label(after), 0 if result in ["right", "down"] else places[process][1] + 1)
        if result == "stop":
            names[process] = label(after)
        if result is not None:
            events.append((process, result, label(after)))
    return names, places, events


def moments_of_the_grid(count):
    """All lists of names that the processes have after some schedule, None for those that have not finished."""
    # A state is (shared variables of the cells, place of each process, steps of each in its cell).
    first = ((), ((0, 0),) * count, (0,) * count)
    found = {first}
    waiting = [first]
    told = set()
    for shared, places, done in waiting:
        told.add(tuple(label(cell) if steps == 4 else None for cell, steps in zip(places, done)))
        for process in range(count):
            if done[process] < 4:
                cells = dict(shared)
                cell = places[process]
                cells[cell], result = advance(cells.get(cell, START), process, done[process])
                steps = 0 if result in ["right", "down"] else done[process] + 1
                state = (tuple(sorted(cells.items(), key=lambda item: item[0])),
                         put(places, process, move(cell, result)), put(done, process, steps))
                if state not in found:
                    found.add(state)
                    waiting.append(state)
    return told


def ends_of_the_grid(count):
    """All lists of names that the processes have after schedules in which all have finished."""
    return {names for names in moments_of_the_grid(count) if None not in names}


# Name lists and routings by points [11] to [14], cell by cell in the order of the names.

def cells_up_to(diagonal):
    return [(right, t - right) for t in range(diagonal + 1) for right in range(t + 1)]


def splits(entered, listed):
    """All (right, down) for a cell that so many processes enter, by the words of point [12]."""
    if entered == 0:
        return [] if listed else [(0, 0)]
    stopping = 1 if listed else 0
    told = [(right, entered - stopping - right) for right in range(entered - stopping + 1)]
    return [both for both in told if listed or min(both) > 0]


def can_send(names, diagonal):
    """Whether the processes can be sent through the cells of the diagonals 0 to this one."""
    ways = {frozenset({((0, 0), len(names))})}
    for cell in cells_up_to(diagonal):
        later = set()
        for way in ways:
            coming = dict(way)
            entered = coming.pop(cell, 0)
            for right, down in splits(entered, label(cell) in names):
                made = dict(coming)
                for result, many in [("right", right), ("down", down)]:
                    if many > 0:
                        made[move(cell, result)] = made.get(move(cell, result), 0) + many
                later.add(frozenset(made.items()))
        ways = later
    return ways != set()


def first_stuck(names):
    """The diagonal of point [14], or None. Nobody is left to be sent behind the diagonal of the count."""
    for diagonal in range(len(names) + 1):
        if not can_send(names, diagonal):
            return diagonal
    return None


def possible_by_outcomes(count):
    """All name lists that the outcomes of point [7] allow when the cells are run one after the other."""
    ends = set()
    # A state is (names so far, cells that are still to be run with the processes that enter them).
    waiting = [((), (((0, 0), count),))]
    found = set(waiting)
    for names, coming in waiting:
        if coming == ():
            ends.add(names)
        else:
            for state in run_first_cell(names, coming):
                if state not in found:
                    found.add(state)
                    waiting.append(state)
    return sorted(list(names) for names in ends)


def parts_of(lists):
    """All lists that are a part of one of the lists, as tuples."""
    return {part for names in lists for many in range(1, len(names) + 1)
            for part in itertools.combinations(names, many)}


def run_first_cell(names, coming):
    cell, entered = coming[0]
    told = []
    for stopping in [0, 1]:
        for right in range(entered - stopping + 1):
            down = entered - stopping - right
            if entered not in [right, down]:
                after = dict(coming[1:])
                for result, many in [("right", right), ("down", down)]:
                    if many > 0:
                        after[move(cell, result)] = after.get(move(cell, result), 0) + many
                cells = tuple(sorted(after.items(), key=lambda item: label(item[0])))
                told.append((names + (label(cell),) * stopping, cells))
    return told


# Schedules after which all have finished, in many orders.

def whole_schedule(count, choose):
    """The schedule in which choose(those not finished, steps so far) gives each next process."""
    left = list(range(count))
    steps = []

    def chosen():
        while left:
            steps.append(choose(left, steps))
            yield steps[-1]

    for process, _, result, _ in walk(count, chosen()):
        if result == "stop":
            left.remove(process)
    return steps


def orders(seeds):
    """Names and choices for whole_schedule."""
    told = [
        ("one after the other", lambda left, steps: left[0]),
        ("the last one first", lambda left, steps: left[-1]),
        ("in rounds", in_rounds),
        ("in rounds, two steps each", lambda left, steps: again_or(left, steps, 2, in_rounds)),
        ("in rounds, three steps each", lambda left, steps: again_or(left, steps, 3, in_rounds)),
    ]
    for seed in seeds:
        told.append((f"by chance {seed}", by_chance(seed)))
        told.append((f"by chance {seed}, two steps each", by_chance(seed, 2)))
        told.append((f"by chance {seed}, three steps each", by_chance(seed, 3)))
    return told


def in_rounds(left, steps):
    later = [process for process in left if steps and process > steps[-1]]
    return (later or left)[0]


def again_or(left, steps, many, choose):
    if steps and steps[-1] in left and steps[-many:] != [steps[-1]] * many:
        return steps[-1]
    return choose(left, steps)


def by_chance(seed, many=1):
    chance = random.Random(seed)
    return lambda left, steps: again_or(left, steps, many, lambda left, steps: chance.choice(left))
