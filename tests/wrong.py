"""Wrong arguments that several tests share."""

COUNTS = [True, False, None, 0, -1, 41, 10 ** 40, "1", b"1", [1], (1,), {}, [[2]]]

# Each is wrong for two processes, in a splitter and in the grid.
SCHEDULES = [
    None, True, 0, "", "0", "-", b"", (), (0, 0), {}, {0: 0}, range(2),
    [True], [False], [0, True], [None], ["0"], [[0]], [(0,)], [-1], [2], [0, 1, 2], [10 ** 40],
    [0, 0, 0, 0, 0], [1] * 5, [0, 0, 0, 0, None], [0, 0, 0, 0, False], [0] * 4 + [1] * 7,
]

# Counts that are wrong also where the greatest one is 5 or 8.
SMALL_COUNTS = COUNTS + [9, 10, 40, 2 ** 64]

NAMES = [
    None, True, 0, "", "0", b"", b"\x00", (), (0,), (0, 1), {}, {0}, {0: 1}, range(2), [], list(range(9)), [0] * 2000,
    [True], [False], [0, True], [False, 1], [None], ["0"], [[0]], [(0,)], [-1], [-1, 0], [0, -1], [1, 0], [0, 0],
    [0, 1, 1], [0, 2, 1], [3, 10 ** 40, 5], [-(10 ** 40)], [0, None], [0, "1"], [0, [1]],
]

# Wrong also where any order is allowed.
NAMES_IN_ANY_ORDER = [names for names in NAMES if names not in ([1, 0], [0, 2, 1], [3, 10 ** 40, 5])] + [
    [2, 1, 2], [1, 0, 1], [8, 7, 6, 5, 4, 3, 2, 1, 0], [1, -1], [2, True], [True, 0], [1, None], ["1", 0], [5, [1]],
]
