import copy
import itertools
import random
import unittest

import reference
import wrong
from splitnames import schedules
from splitnames.errors import Impossible, InvalidNames
from splitnames.schedules import gives_names, schedule_for

FAR = [10 ** 20, 10 ** 30, 10 ** 30 + 1, 10 ** 40 - 1]
OTHER_VALUES = [None, True, False, 0, 4, "", "0,0,0,0", "-", b"0000", (), (0, 0, 0, 0), {}, {0}, {0: 0}, [None], [[0]],
                [(0, 0)], ["0"], [[[0]]], [0, 0, 0, None], [-1], [10 ** 40], [0] * 2000, [{}], [b"0"]]


def possible_lists(many, number):
    """Some possible lists with so many names, the first and the last one and some of real runs with them."""
    told = [list(range(many)), [t * (t + 1) // 2 for t in range(many)], [t * (t + 3) // 2 for t in range(many)]]
    for _, choose in reference.orders(range(number)):
        told.append(sorted(reference.grid_play(many, reference.whole_schedule(many, choose))[0]))
    return told


def all_lists(many):
    return reference.possible_by_outcomes(many)


def names_of(schedule):
    """The names that two processes get by a schedule; None if it contains one that has finished."""
    try:
        return reference.grid_play(2, schedule)[0]
    except KeyError:
        return None


class Interface(unittest.TestCase):
    def test_functions_are_defined_in_this_file(self):
        for name in ["schedule_for", "gives_names"]:
            self.assertEqual(getattr(schedules, name).__module__, "splitnames.schedules")

    def test_example(self):
        told = [gives_names([2, 1], schedule_for([2, 1])), gives_names([0], [0, 0, 0, 0]), gives_names([0], [0, 0, 0])]
        self.assertEqual(told, [True, True, False])


class ScheduleFor(unittest.TestCase):
    def check(self, names):
        schedule = schedule_for(names)
        self.assertIs(type(schedule), list)
        self.assertEqual({type(process) for process in schedule}, {int})
        # The reference fails if a process performs a step after it has finished.
        self.assertEqual(reference.grid_play(len(names), schedule)[0], names)
        self.assertIs(gives_names(names, schedule), True)
        return schedule

    def test_one_name(self):
        self.assertEqual(self.check([0]), [0, 0, 0, 0])

    def test_two_names(self):
        for names in [[0, 1], [1, 0], [0, 2], [2, 0], [1, 2], [2, 1]]:
            self.check(names)

    def test_one_to_four_names_in_every_order(self):
        for many, number in [(1, 1), (2, 3), (3, 12), (4, 56)]:
            lists = all_lists(many)
            self.assertEqual(len(lists), number)
            for names in lists:
                for order in itertools.permutations(names):
                    self.check(list(order))

    def test_all_lists_of_five_and_six_names(self):
        chance = random.Random(5)
        for names in all_lists(5) + all_lists(6):
            chance.shuffle(names)
            self.check(names)

    def test_seven_and_eight_names(self):
        chance = random.Random(8)
        for many in [7, 8]:
            for names in possible_lists(many, 40):
                self.check(names)
                self.check(names[::-1])
                self.check(chance.sample(names, many))

    def test_impossible_lists_of_one_to_four_names(self):
        stuck = 0
        for many, below in [(1, 8), (2, 8), (3, 11), (4, 11)]:
            for names in map(list, itertools.combinations(range(below), many)):
                expected = reference.first_stuck(names)
                if expected is not None:
                    stuck += 1
                    for order in [names, names[::-1]]:
                        with self.assertRaises(Impossible) as caught:
                            schedule_for(order)
                        self.assertEqual(caught.exception.diagonal, expected)
        self.assertGreater(stuck, 400)

    def test_impossible_lists_of_up_to_eight_names(self):
        chance = random.Random(6)
        for names, diagonal in [
            ([1], 0), ([5, 3, 4], 1), ([5, 0, 3], 2), ([30, 28, 23, 21, 20, 9, 4, 2], 3), ([35, 4, 9, 14, 20, 25, 27, 30], 4),
            ([2, 34, 8, 30, 15, 23, 18, 20], 5), ([31, 0, 26, 4, 22, 5, 13, 9], 6), ([29, 1, 4, 12, 13, 25, 27, 30], 7),
        ]:
            self.assertEqual(reference.first_stuck(sorted(names)), diagonal)
            for order in [names, sorted(names), chance.sample(names, len(names))]:
                with self.assertRaises(Impossible) as caught:
                    schedule_for(order)
                self.assertEqual(caught.exception.diagonal, diagonal)

    def test_names_far_away(self):
        for far in FAR:
            for names in [[far], [far, 0], [1, far], [far, 2, 1], [6, 5, 4, 3, 2, 1, 0, far], [far + k for k in range(7, -1, -1)]]:
                with self.assertRaises(Impossible) as caught:
                    schedule_for(names)
                self.assertEqual(caught.exception.diagonal, reference.first_stuck(sorted(names)))

    def test_wrong_names(self):
        for names in wrong.NAMES_IN_ANY_ORDER:
            with self.subTest(names=names):
                self.assertRaises(InvalidNames, schedule_for, names)

    def test_wrong_names_come_before_impossible(self):
        for names in [[1, 1], [3, 4, 5, 3], [True], [10 ** 20, 10 ** 20], [-1, 1], list(range(100, 109))]:
            self.assertRaises(InvalidNames, schedule_for, names)


class GivesNames(unittest.TestCase):
    def test_every_short_schedule_of_one_process(self):
        for many in range(7):
            for name in [0, 1]:
                self.assertIs(gives_names([name], [0] * many), many == 4 and name == 0)

    def test_every_schedule_of_two_processes(self):
        orders = [list(names) for names in itertools.permutations(range(4), 2)]
        given = []
        for many in [0, 1, 4, 10, 11, 12, 14]:
            for schedule in itertools.product(range(2), repeat=many):
                got = names_of(schedule)
                # Among the many that do not end, a few are enough.
                if got is not None and None not in got or sum(schedule) == 5:
                    for names in orders:
                        self.assertIs(gives_names(names, list(schedule)), got == names, (names, schedule))
                    given.append(got)
        self.assertEqual({tuple(names) for names in given if names and None not in names},
                         {(0, 1), (1, 0), (0, 2), (2, 0), (1, 2), (2, 1)})

    def test_schedules_of_many_orders(self):
        for count in [1, 3, 5, 8]:
            for _, choose in reference.orders(range(10)):
                schedule = reference.whole_schedule(count, choose)
                names = reference.grid_play(count, schedule)[0]
                self.assertIs(gives_names(names, schedule), True)
                for other in [names[1:] + names[:1], sorted(names), names[::-1]]:
                    self.assertIs(gives_names(other, schedule), other == names)

    def test_changed_schedules(self):
        for names in all_lists(2) + all_lists(3) + possible_lists(8, 3):
            schedule = schedule_for(names)
            for at in range(len(schedule)):
                self.assertIs(gives_names(names, schedule[:at]), False)
                self.assertIs(gives_names(names, schedule[:at] + schedule[at + 1:]), False)
                for item in [True, False, None, -1, len(names), str(schedule[at]), [schedule[at]], (schedule[at],), 10 ** 40]:
                    self.assertIs(gives_names(names, schedule[:at] + [item] + schedule[at + 1:]), False)
            for process in range(len(names)):
                self.assertIs(gives_names(names, schedule + [process]), False)
            self.assertIs(gives_names(names, schedule * 2), False)
            self.assertIs(gives_names(names, tuple(schedule)), False)

    def test_other_number_of_names(self):
        schedule = schedule_for([0, 2, 1])
        for names in [[0], [0, 2], [0, 2, 1, 3], [2, 0, 1], [0, 1, 2], [0, 2, 3]]:
            self.assertIs(gives_names(names, schedule), False)
        self.assertIs(gives_names([0, 2], [0] * 4 + [1] * 6), True)
        self.assertIs(gives_names([0, 2, 5], [0] * 4 + [1] * 6), False)

    def test_impossible_lists(self):
        for names in [[1], [3, 4, 5], [5, 0, 3], [10 ** 20], [10 ** 40 - 1, 0], [0, 10 ** 31]]:
            for value in [[], [0] * 4, [0] * 4 + [1] * 6, [0] * 4 + [1] * 6 + [2] * 8, None, [None] * len(names)]:
                self.assertIs(gives_names(names, value), False)

    def test_any_value(self):
        for value in OTHER_VALUES:
            with self.subTest(value=value):
                self.assertIs(gives_names([0], value), False)
                self.assertIs(gives_names([2, 0], value), False)
                self.assertIs(gives_names([1], value), False)

    def test_wrong_names_come_first(self):
        for names in wrong.NAMES_IN_ANY_ORDER:
            for value in [None, [], [0, 0, 0, 0], 7, names]:
                with self.subTest(names=names, value=value):
                    self.assertRaises(InvalidNames, gives_names, names, value)


class NewListsAndUnchangedArguments(unittest.TestCase):
    def test_arguments_are_unchanged(self):
        for names in [[0], [2, 1], [4, 1, 2], [5, 3, 0], [1, 1], [0, True], [0, [1]], [], (1, 0)]:
            for call in [schedule_for, lambda given: gives_names(given, given), lambda given: gives_names([1, 0], given)]:
                kept = copy.deepcopy(names)
                try:
                    call(names)
                except ValueError:
                    pass
                self.assertEqual(repr(names), repr(kept))

    def test_changing_a_result_has_no_effect(self):
        names = [2, 1]
        first = schedule_for(names)
        kept = list(first)
        first[0] = "changed"
        first.append("changed")
        names.append(4)
        self.assertEqual(schedule_for([2, 1]), kept)
        self.assertIsNot(schedule_for([2, 1]), schedule_for([2, 1]))

    def test_equal_arguments_give_equal_results(self):
        for names in [[0], [4, 2, 1], [7, 6, 5, 4, 3, 2, 1, 0]]:
            self.assertEqual(schedule_for(names), schedule_for(list(names)))


if __name__ == "__main__":
    unittest.main()
