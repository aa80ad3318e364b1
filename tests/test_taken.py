import copy
import itertools
import random
import unittest

import reference
import wrong
from splitnames import taken
from splitnames.errors import InvalidCount, InvalidNames
from splitnames.taken import can_be_taken, full_sets, least_count, next_names

FAR = [36, 37, 10 ** 20, 10 ** 30, 10 ** 30 + 1, 10 ** 40 - 1]
OTHER_NAMES = [None, True, [], [1, 0], (0,), [True], [0, 0], [-1], list(range(9))]
# For each count the parts of the possible lists, by a search of its own.
PARTS = {}


def parts(count):
    if count not in PARTS:
        PARTS[count] = reference.parts_of(reference.possible_by_outcomes(count))
    return PARTS[count]


def lists_below(below, most):
    return [names for many in range(1, most + 1) for names in itertools.combinations(range(below), many)]


def chosen_lists(seed, number, below=38):
    chance = random.Random(seed)
    return [tuple(sorted(chance.sample(range(below), chance.randrange(1, 9)))) for _ in range(number)]


def first_name(diagonal):
    return diagonal * (diagonal + 1) // 2


class Interface(unittest.TestCase):
    def test_functions_are_defined_in_this_file(self):
        for name in ["can_be_taken", "least_count", "next_names", "full_sets"]:
            self.assertEqual(getattr(taken, name).__module__, "splitnames.taken")

    def test_example_of_least_count(self):
        told = [least_count(names) for names in [[4], [3, 5], [0, 4], [0, 3, 5], [10 ** 20]]]
        self.assertEqual(told, [3, 4, 3, 5, None])

    def test_example_of_the_others(self):
        told = [can_be_taken(3, [3, 5]), can_be_taken(4, [3, 5]), next_names(2, [0]), next_names(3, [2, 3]),
                list(full_sets(3, [2, 3]))]
        self.assertEqual(told, [False, True, [1, 2], [1, 4], [[1, 2, 3], [2, 3, 4]]])


class CanBeTaken(unittest.TestCase):
    def test_moments_of_real_runs(self):
        for count in [1, 2, 3]:
            moments = {tuple(sorted(name for name in names if name is not None))
                       for names in reference.moments_of_the_grid(count)}
            for names in lists_below(first_name(count) + 2, count + 1):
                self.assertIs(can_be_taken(count, list(names)), names in moments, (count, names))

    def test_parts_of_possible_lists_of_up_to_five_names(self):
        for count, below, most in [(1, 5, 4), (2, 6, 5), (3, 9, 6), (4, 12, 6), (5, 16, 4)]:
            for names in lists_below(below, most):
                self.assertIs(can_be_taken(count, list(names)), names in parts(count), (count, names))

    def test_parts_of_possible_lists_of_up_to_eight_names(self):
        for count in [5, 6, 7, 8]:
            chance = random.Random(count)
            told = {True: 0, False: 0}
            lists = chosen_lists(count, 300, first_name(count) + 2) + chance.sample(sorted(parts(count)), 150)
            # One name beside a part, so that many lists fail by a little only.
            lists += [tuple(sorted({*names, chance.randrange(first_name(count))})) for names in lists]
            for names in lists:
                if len(names) < 9:
                    expected = names in parts(count)
                    told[expected] += 1
                    self.assertIs(can_be_taken(count, list(names)), expected, (count, names))
            self.assertGreater(min(told.values()), 100)

    def test_moments_of_longer_runs(self):
        for count in range(4, 9):
            for _, choose in reference.orders(range(6)):
                schedule = reference.whole_schedule(count, choose)
                names = []
                for _, cell, result, _ in reference.walk(count, schedule):
                    if result == "stop":
                        names = sorted(names + [reference.label(cell)])
                        self.assertIs(can_be_taken(count, names), True)

    def test_more_processes_suffice_too(self):
        for names in chosen_lists(0, 300, 20) + lists_below(10, 2):
            told = [can_be_taken(count, list(names)) for count in range(1, 9)]
            self.assertEqual(told, sorted(told))

    def test_fewer_processes_than_names(self):
        for many in range(1, 9):
            names = list(range(many))
            for count in range(1, 9):
                self.assertIs(can_be_taken(count, names), count >= many)

    def test_ends_of_the_range(self):
        self.assertIs(can_be_taken(1, [0]), True)
        self.assertIs(can_be_taken(1, [1]), False)
        self.assertIs(can_be_taken(8, [35]), True)
        self.assertIs(can_be_taken(7, [35]), False)
        self.assertIs(can_be_taken(8, [36]), False)
        self.assertIs(can_be_taken(8, [28, 35]), False)
        self.assertIs(can_be_taken(8, [0, 2, 5, 9, 14, 20, 27, 35]), True)
        self.assertIs(can_be_taken(8, list(range(28, 36))), False)

    def test_names_far_away(self):
        for far in FAR:
            for names in [[far], [0, far], [0, 1, 2, 3, 4, 5, 6, far], [far + k for k in range(8)]]:
                for count in [1, 7, 8]:
                    self.assertIs(can_be_taken(count, names), False)


class LeastCount(unittest.TestCase):
    def test_single_names(self):
        for diagonal in range(8):
            for name in range(first_name(diagonal), first_name(diagonal + 1)):
                self.assertEqual(least_count([name]), diagonal + 1)
        # The diagonal 8 needs 9 processes.
        for name in list(range(first_name(8), first_name(9) + 1)) + FAR:
            self.assertIsNone(least_count([name]))

    def test_least_count_that_can(self):
        for names in chosen_lists(1, 250) + chosen_lists(2, 250, 16) + lists_below(12, 2) + [tuple(range(8))]:
            counts = [count for count in range(1, 9) if names in parts(count)]
            self.assertEqual(least_count(list(names)), counts[0] if counts else None, names)

    def test_each_answer_is_given(self):
        told = {least_count(list(names)) for names in lists_below(38, 2)}
        self.assertEqual(told, {1, 2, 3, 4, 5, 6, 7, 8, None})

    def test_eight_names(self):
        self.assertEqual(least_count(list(range(8))), 8)
        self.assertEqual(least_count([0, 1, 3, 6, 10, 15, 21, 28]), 8)
        self.assertIsNone(least_count([1, 2, 3, 4, 5, 6, 7, 36]))
        self.assertIsNone(least_count([0, 1, 3, 6, 10, 15, 28, 35]))


class NextNames(unittest.TestCase):
    def expected(self, count, names):
        below = first_name(count) + 10
        return [name for name in range(below)
                if name not in names and tuple(sorted((*names, name))) in parts(count)]

    def check(self, count, names):
        told = next_names(count, list(names))
        self.assertEqual(told, self.expected(count, names), (count, names))
        self.assertEqual({type(told)} | {type(name) for name in told}, {list} | ({int} if told else set()))

    def test_up_to_four_processes(self):
        for count, below, most in [(1, 4, 3), (2, 6, 4), (3, 8, 5), (4, 11, 5)]:
            for names in lists_below(below, most):
                self.check(count, names)

    def test_five_to_eight_processes(self):
        for count in [5, 6, 7, 8]:
            for names in random.Random(count).sample(sorted(parts(count)), 15) + chosen_lists(count, 15):
                self.check(count, names)

    def test_single_names(self):
        for count in range(1, 9):
            for name in [0, first_name(count - 1), first_name(count) - 1, first_name(count), 35, 36]:
                self.check(count, (name,))

    def test_nothing_can_be_added(self):
        for count in range(1, 9):
            self.assertEqual(next_names(count, list(range(count))), [])
        self.assertEqual(next_names(8, [0, 2, 5, 9, 14, 20, 27, 35]), [])
        self.assertEqual(next_names(1, [0]), [])

    def test_list_that_cannot_be_taken(self):
        for count, names in [(1, [1]), (3, [3, 5]), (2, [0, 1, 2]), (4, [0, 3, 5]), (8, [28, 35]), (8, list(range(28, 36)))]:
            self.assertIs(can_be_taken(count, names), False)
            self.assertEqual(next_names(count, names), [])
        for far in FAR:
            for names in [[far], [0, far], [far + k for k in range(8)]]:
                self.assertEqual(next_names(8, names), [])


class FullSets(unittest.TestCase):
    def check(self, count, names):
        expected = [full for full in reference.possible_by_outcomes(count) if set(names) <= set(full)]
        told = list(full_sets(count, list(names)))
        self.assertEqual(told, expected, (count, names))
        self.assertIs(can_be_taken(count, list(names)), told != [])

    def test_up_to_three_processes(self):
        for count in [1, 2, 3]:
            for names in lists_below(8, 4):
                self.check(count, names)

    def test_four_and_five_processes(self):
        for count in [4, 5]:
            for names in lists_below(first_name(count) + 1, 2) + chosen_lists(count, 60, 12):
                self.check(count, names)

    def test_more_names_than_processes(self):
        for count in range(1, 6):
            self.assertEqual(list(full_sets(count, list(range(count)))), [list(range(count))])
            for many in range(count + 1, 9):
                self.assertEqual(list(full_sets(count, list(range(many)))), [])

    def test_names_far_away(self):
        for far in FAR:
            self.assertEqual(list(full_sets(5, [far])), [])
            self.assertEqual(list(full_sets(5, [0, far])), [])

    def test_walks_beside_each_other(self):
        one, other = full_sets(4, [2]), full_sets(4, [2])
        self.assertIs(iter(one), one)
        expected = [full for full in reference.possible_by_outcomes(4) if 2 in full]
        self.assertEqual([next(one), next(one), next(other)], expected[:2] + expected[:1])
        self.assertEqual(list(other), expected[1:])
        one.close()
        self.assertEqual(list(full_sets(4, [2])), expected)

    def test_changing_a_yielded_list_has_no_effect(self):
        expected = [full for full in reference.possible_by_outcomes(4) if 3 in full]
        walked = []
        for full in full_sets(4, [3]):
            walked.append(list(full))
            full.clear()
            full.append("changed")
        self.assertEqual(walked, expected)
        self.assertEqual(list(full_sets(4, [3])), expected)

    def test_changing_the_argument_during_a_walk_has_no_effect(self):
        names = [3]
        expected = [full for full in reference.possible_by_outcomes(4) if 3 in full]
        walk = full_sets(4, names)
        walked = [next(walk)]
        names[0] = 10 ** 20
        names.append("changed")
        self.assertEqual(walked + list(walk), expected)


class WrongArguments(unittest.TestCase):
    def test_wrong_counts_come_first(self):
        for count in wrong.SMALL_COUNTS:
            for names in [[0], [36]] + OTHER_NAMES:
                with self.subTest(count=count, names=names):
                    self.assertRaises(InvalidCount, can_be_taken, count, names)
                    self.assertRaises(InvalidCount, next_names, count, names)
                    self.assertRaises(InvalidCount, lambda: next(full_sets(count, names)))
        for count in [6, 7, 8]:
            for names in [[0], [36]] + OTHER_NAMES:
                self.assertRaises(InvalidCount, lambda: next(full_sets(count, names)))

    def test_wrong_names(self):
        for names in wrong.NAMES:
            with self.subTest(names=names):
                self.assertRaises(InvalidNames, least_count, names)
                for count in [1, 5]:
                    self.assertRaises(InvalidNames, lambda: next(full_sets(count, names)))
                for count in [1, 2, 8]:
                    self.assertRaises(InvalidNames, can_be_taken, count, names)
                    self.assertRaises(InvalidNames, next_names, count, names)


class NewListsAndUnchangedArguments(unittest.TestCase):
    def test_arguments_are_unchanged(self):
        for names in [[0], [2, 3], [0, 3, 5], [1, 0], [0, True], [0, [1]], [], list(range(8)), list(range(9))]:
            for call in [least_count, lambda given: can_be_taken(3, given), lambda given: next_names(3, given),
                         lambda given: list(full_sets(3, given)), lambda given: can_be_taken(given, given)]:
                kept = copy.deepcopy(names)
                try:
                    call(names)
                except ValueError:
                    pass
                self.assertEqual(repr(names), repr(kept))

    def test_changing_a_result_has_no_effect(self):
        first = next_names(3, [2, 3])
        first[0] = "changed"
        first.append("changed")
        self.assertEqual(next_names(3, [2, 3]), [1, 4])
        self.assertIsNot(next_names(3, [2, 3]), next_names(3, [2, 3]))


if __name__ == "__main__":
    unittest.main()
