import copy
import itertools
import unittest

import reference
import wrong
from splitnames import counting
from splitnames.counting import count_sets, nth_set, set_number, walk_sets
from splitnames.errors import Impossible, InvalidCount, InvalidNames, InvalidNumber, TooLarge
from splitnames.sets import is_possible, stuck_diagonal

NUMBERS = {1: 1, 2: 3, 3: 12, 4: 56, 5: 292}
WRONG_COUNTS = wrong.SMALL_COUNTS + [6, 7, 8]
OTHER_VALUES = [None, True, False, -1, -(10 ** 40), 10 ** 40, "0", b"0", "", [], [0], (), (0,), {}, {0}, {0: 0}, [[[0]]]]


class Interface(unittest.TestCase):
    def test_functions_are_defined_in_this_file(self):
        for name in ["count_sets", "nth_set", "set_number", "walk_sets"]:
            self.assertEqual(getattr(counting, name).__module__, "splitnames.counting")

    def test_example(self):
        told = [[count_sets(count) for count in [1, 2, 3, 4]], nth_set(3, 3), set_number([1, 4, 5]), list(walk_sets(2))]
        self.assertEqual(told, [[1, 3, 12, 56], [0, 2, 4], 10, [[0, 1], [0, 2], [1, 2]]])


class Numbers(unittest.TestCase):
    def test_count(self):
        for count, number in NUMBERS.items():
            self.assertEqual(count_sets(count), number)
            self.assertIs(type(count_sets(count)), int)

    def test_lists_of_real_runs(self):
        for count in [1, 2, 3]:
            ends = sorted({tuple(sorted(names)) for names in reference.ends_of_the_grid(count)})
            self.assertEqual(list(walk_sets(count)), [list(names) for names in ends])
            self.assertEqual(count_sets(count), len(ends))

    def test_lists_by_the_outcomes_of_each_cell(self):
        for count in NUMBERS:
            expected = reference.possible_by_outcomes(count)
            self.assertEqual(list(walk_sets(count)), expected)
            self.assertEqual(count_sets(count), len(expected))
            self.assertEqual([nth_set(count, number) for number in range(len(expected))], expected)
            self.assertEqual([set_number(names) for names in expected], list(range(len(expected))))

    def test_lists_by_is_possible(self):
        for count in NUMBERS:
            names = [list(names) for names in itertools.combinations(range(16), count)]
            self.assertEqual(list(walk_sets(count)), [chosen for chosen in names if is_possible(chosen)])

    def test_ascending_lists_of_integers(self):
        for count in NUMBERS:
            walked = list(walk_sets(count))
            self.assertEqual(walked, sorted(walked))
            self.assertEqual(len({tuple(names) for names in walked}), NUMBERS[count])
            for names in walked:
                self.assertEqual([type(names)] + [type(name) for name in names], [list] + [int] * count)
                self.assertEqual(names, sorted(set(names)))

    def test_first_and_last(self):
        for count, number in NUMBERS.items():
            self.assertEqual(nth_set(count, 0), list(range(count)))
            self.assertEqual(set_number(list(range(count))), 0)
            self.assertEqual(set_number(nth_set(count, number - 1)), number - 1)
            for wrong_number in [number, number + 1, -1, -number]:
                self.assertRaises(InvalidNumber, nth_set, count, wrong_number)
        self.assertEqual([nth_set(1, 0), nth_set(2, 2), nth_set(3, 11), nth_set(4, 55)],
                         [[0], [1, 2], [2, 3, 4], [3, 5, 7, 8]])


class Walk(unittest.TestCase):
    def test_it_is_walked_once(self):
        walk = walk_sets(3)
        self.assertIs(iter(walk), walk)
        self.assertEqual(next(walk), [0, 1, 2])
        self.assertEqual(len(list(walk)), 11)
        self.assertEqual(list(walk), [])

    def test_walks_beside_each_other(self):
        one, other = walk_sets(3), walk_sets(3)
        expected = reference.possible_by_outcomes(3)
        next(one)
        self.assertEqual([next(other) for _ in range(5)], expected[:5])
        self.assertEqual(list(one), expected[1:])
        self.assertEqual(list(other), expected[5:])

    def test_left_early(self):
        for count in NUMBERS:
            for names in walk_sets(count):
                names.append("changed")
                break
            walk = walk_sets(count)
            next(walk).clear()
            walk.close()
            self.assertEqual(list(walk_sets(count)), reference.possible_by_outcomes(count))

    def test_changing_a_yielded_list_has_no_effect(self):
        for count in NUMBERS:
            expected = reference.possible_by_outcomes(count)
            walked = []
            for names in walk_sets(count):
                walked.append(list(names))
                names.reverse()
                names.append("changed")
            self.assertEqual(walked, expected)
            self.assertEqual(list(walk_sets(count)), expected)
            self.assertEqual([nth_set(count, 0), set_number(expected[-1])], [expected[0], len(expected) - 1])

    def test_new_lists(self):
        first, second = list(walk_sets(3)), list(walk_sets(3))
        self.assertEqual(len({id(names) for names in first + second}), 24)


class WrongArguments(unittest.TestCase):
    def test_wrong_counts(self):
        for count in WRONG_COUNTS:
            with self.subTest(count=count):
                self.assertRaises(InvalidCount, count_sets, count)
                self.assertRaises(InvalidCount, lambda: next(walk_sets(count)))
                self.assertRaises(InvalidCount, lambda: list(walk_sets(count)))
                for number in [0, -1, True, None, 10 ** 40, "0"]:
                    self.assertRaises(InvalidCount, nth_set, count, number)

    def test_wrong_numbers(self):
        for count in NUMBERS:
            for number in OTHER_VALUES:
                with self.subTest(count=count, number=number):
                    self.assertRaises(InvalidNumber, nth_set, count, number)

    def test_wrong_names(self):
        for names in wrong.NAMES:
            with self.subTest(names=names):
                self.assertRaises(InvalidNames, set_number, names)

    def test_too_many_names(self):
        for many in [6, 7, 8]:
            # Possible and not: the number of the names is looked at first.
            for names in [list(range(many)), list(range(100, 100 + many)), [1] + [10 ** 39 + k for k in range(many - 1)]]:
                with self.assertRaises(TooLarge) as caught:
                    set_number(names)
                self.assertEqual(caught.exception.limit, 5)
        for names in [list(range(9)), [5, 4, 3, 2, 1, 0], [0, 1, 2, 3, 4, True], [0, 0, 1, 2, 3, 4]]:
            self.assertRaises(InvalidNames, set_number, names)

    def test_impossible_names(self):
        for many, below in [(1, 8), (2, 8), (3, 11), (4, 11), (5, 11)]:
            for names in map(list, itertools.combinations(range(below), many)):
                diagonal = stuck_diagonal(names)
                if diagonal is not None:
                    with self.assertRaises(Impossible) as caught:
                        set_number(names)
                    self.assertEqual(caught.exception.diagonal, diagonal)
        for names, diagonal in [([1], 0), ([3, 4, 5], 1), ([0, 3, 5], 2), ([1, 2, 4, 10 ** 20], 3), ([10 ** 39], 0)]:
            with self.assertRaises(Impossible) as caught:
                set_number(names)
            self.assertEqual(caught.exception.diagonal, diagonal)


class NewListsAndUnchangedArguments(unittest.TestCase):
    def test_arguments_are_unchanged(self):
        for value in [[0], [1, 4, 5], [0, 3, 5], [1, 0], [0, True], [0, [1]], [], list(range(6))]:
            for call in [set_number, count_sets, lambda given: nth_set(3, given), lambda given: list(walk_sets(given))]:
                kept = copy.deepcopy(value)
                try:
                    call(value)
                except ValueError:
                    pass
                self.assertEqual(repr(value), repr(kept))

    def test_changing_a_result_has_no_effect(self):
        first = nth_set(3, 3)
        first[0] = "changed"
        first.append("changed")
        self.assertEqual(nth_set(3, 3), [0, 2, 4])
        self.assertIsNot(nth_set(3, 3), nth_set(3, 3))
        self.assertEqual([set_number([0, 2, 4]), list(walk_sets(3))[3]], [3, [0, 2, 4]])


if __name__ == "__main__":
    unittest.main()
