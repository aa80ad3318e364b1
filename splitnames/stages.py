"""How processes come from diagonal to diagonal of the grid.

A row is the tuple of the numbers of processes that enter the cells of a diagonal,
in the order of their names. A stage belongs to a diagonal: a dict from each row in
which the processes can come to the next diagonal to one way there, the tuple of
(entered, right, down) for each cell of this diagonal.
"""

from splitnames.grid import name_of


def ways_on(entered, listed):
    """Return each (right, down) in which the processes that enter a cell can go on."""
    if listed:
        return [(right, entered - 1 - right) for right in range(entered)]
    if entered == 0:
        return [(0, 0)]
    return [(right, entered - right) for right in range(1, entered)]


def row_with_cell(later, right, down):
    """Return the row of the next diagonal, begun with earlier cells, after one more cell."""
    # Who goes down meets in the next diagonal who goes right from the cell before.
    return later[:-1] + (later[-1] + down, right)


def stages_of(count, names, ways):
    """Return the stages of the diagonals 0 to count - 1, up to the first one that is empty.

    The function ways tells for one cell what ways_on tells.
    """
    stages = []
    rows = [(count,)]
    for diagonal in range(count):
        listed = [name_of(right, diagonal - right) in names for right in range(diagonal + 1)]
        stages.append(_stage_after(rows, listed, ways))
        rows = list(stages[-1])
        if rows == []:
            break
    return stages


def _stage_after(rows, listed, ways):
    """Return the stage of the diagonal that is entered in one of the rows."""
    stage = {}
    for row in rows:
        for later, way in _ways_from(row, listed, ways).items():
            if later not in stage:
                stage[later] = way
    return stage


def _ways_from(row, listed, ways):
    """Return the stage of the diagonal that is entered in this row."""
    found = {(0,): ()}
    for entered, is_listed in zip(row, listed):
        longer = {}
        for later, way in found.items():
            for right, down in ways(entered, is_listed):
                longer[row_with_cell(later, right, down)] = way + ((entered, right, down),)
        found = longer
    return found
