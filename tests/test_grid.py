import unittest

from splitnames import grid
from splitnames.errors import InvalidCell, InvalidCount, InvalidName
from splitnames.grid import cell_of, most_names, name_of

MOST = 10 ** 15
GREATEST = 10 ** 30
WRONG = [True, False, None, "", "1", b"1", [], [1], (), (0, 0), {}, {1}, [[0, [1]]], -1, -(10 ** 40), 10 ** 40]


def diagonals(many):
    """The cells of the first diagonals in the order of their names."""
    return [(right, t - right) for t in range(many) for right in range(t + 1)]


class Interface(unittest.TestCase):
    def test_functions_are_defined_in_this_file(self):
        for name in ["name_of", "cell_of", "most_names"]:
            self.assertEqual(getattr(grid, name).__module__, "splitnames.grid")

    def test_example(self):
        told = [name_of(0, 1), name_of(1, 0), cell_of(4), cell_of(10 ** 30), most_names(3)]
        self.assertEqual(told, [1, 2, (1, 1), (776122791247035, 638090771126059), 6])


class NameOf(unittest.TestCase):
    def test_names_count_the_cells_diagonal_by_diagonal(self):
        cells = diagonals(60)
        self.assertEqual([name_of(right, down) for right, down in cells], list(range(len(cells))))

    def test_point_9(self):
        self.assertEqual(name_of(0, 0), 0)
        self.assertEqual([name_of(0, 2), name_of(1, 1), name_of(2, 0)], [3, 4, 5])

    def test_greatest_coordinates(self):
        both = 2 * MOST
        self.assertEqual(name_of(MOST, 0), MOST * (MOST + 1) // 2 + MOST)
        self.assertEqual(name_of(0, MOST), MOST * (MOST + 1) // 2)
        self.assertEqual(name_of(MOST, MOST), both * (both + 1) // 2 + MOST)
        self.assertEqual(name_of(MOST - 1, MOST), both * (both - 1) // 2 + MOST - 1)

    def test_wrong_coordinates(self):
        for value in WRONG + [MOST + 1]:
            for right, down in [(value, 0), (0, value), (value, value), (value, MOST), (MOST, value)]:
                with self.subTest(right=right, down=down):
                    self.assertRaises(InvalidCell, name_of, right, down)

    def test_type_of_the_result(self):
        self.assertIs(type(name_of(0, 0)), int)


class CellOf(unittest.TestCase):
    def test_cells_of_the_first_names(self):
        cells = diagonals(60)
        self.assertEqual([cell_of(name) for name in range(len(cells))], cells)

    def test_first_and_last_cell_of_a_diagonal_and_their_neighbours(self):
        for t in [1, 2, 3, 1000, 2 ** 26, 2 ** 31, 2 ** 40 + 1, 10 ** 14 + 7, 10 ** 15 - 1, 10 ** 15, 1414213562373093]:
            first = t * (t + 1) // 2
            with self.subTest(t=t):
                self.assertEqual(cell_of(first - 1), (t - 1, 0))
                self.assertEqual(cell_of(first), (0, t))
                self.assertEqual(cell_of(first + 1), (1, t - 1))
                self.assertEqual(cell_of(first + t - 1), (t - 1, 1))
                self.assertEqual(cell_of(first + t), (t, 0))
                self.assertEqual(cell_of(first + t + 1), (0, t + 1))

    def test_both_ways(self):
        for name in [0, 1, 2, 10 ** 15, 10 ** 29 + 12345, GREATEST - 1, GREATEST]:
            with self.subTest(name=name):
                cell = cell_of(name)
                right, down = cell
                self.assertIs(type(cell), tuple)
                self.assertGreaterEqual(min(cell), 0)
                t = right + down
                self.assertEqual(t * (t + 1) // 2 + right, name)

    def test_both_ways_from_great_cells(self):
        for right in [0, 1, MOST // 3, 414213562373094]:
            for down in [0, 1, MOST - 7, MOST]:
                with self.subTest(right=right, down=down):
                    self.assertEqual(cell_of(name_of(right, down)), (right, down))

    def test_wrong_names(self):
        for value in WRONG + [GREATEST + 1]:
            with self.subTest(value=value):
                self.assertRaises(InvalidName, cell_of, value)


class MostNames(unittest.TestCase):
    def test_point_10(self):
        self.assertEqual([most_names(count) for count in range(1, 9)], [1, 3, 6, 10, 15, 21, 28, 36])

    def test_number_of_the_cells_that_can_be_reached(self):
        for count in range(1, 30):
            self.assertEqual(most_names(count), len(diagonals(count)))

    def test_edges(self):
        self.assertEqual(most_names(40), 820)
        self.assertEqual(most_names(41), 861)
        self.assertEqual(most_names(MOST - 1), MOST * (MOST - 1) // 2)
        self.assertEqual(most_names(MOST), MOST * (MOST + 1) // 2)

    def test_wrong_counts(self):
        for value in WRONG + [0, MOST + 1]:
            with self.subTest(value=value):
                self.assertRaises(InvalidCount, most_names, value)


class Arguments(unittest.TestCase):
    def test_wrong_arguments_are_unchanged(self):
        value = [[1, 2], 3]
        for call in [lambda: name_of(value, 0), lambda: name_of(0, value), lambda: cell_of(value),
                     lambda: most_names(value)]:
            self.assertRaises(ValueError, call)
            self.assertEqual(value, [[1, 2], 3])


if __name__ == "__main__":
    unittest.main()
