import copy
import itertools
import random
import unittest

import reference
import wrong
from splitnames import sets
from splitnames.errors import Impossible, InvalidNames
from splitnames.sets import is_possible, is_routing, routing_for, stuck_diagonal

CELLS = {reference.label(cell): cell for cell in reference.cells_up_to(8)}
FAR = [10 ** 20, 10 ** 39, 10 ** 40 - 1, 10 ** 40, 10 ** 60]


def lists_below(most, many):
    return [list(names) for names in itertools.combinations(range(most), many)]


def chosen_lists(many, below, seed, number):
    chance = random.Random(seed)
    return [sorted(chance.sample(range(below), many)) for _ in range(number)]


def numbers_for(name, counts):
    """All rows of a cell that so many processes enter, in which at most one stops."""
    return [(name, entered, right, entered - stopping - right) for entered in counts for stopping in [0, 1]
            for right in range(entered - stopping + 1)]


def follows_point_12(names, routing):
    """Point [12] for a list of tuples of integers, in its own words."""
    told = {name: (entered, right, down) for name, entered, right, down in routing}
    if len(told) != len(routing) or sorted(routing) != routing or not set(names) <= set(told) <= set(CELLS):
        return False
    for name, (right_of, down_of) in CELLS.items():
        if name == 0:
            coming = len(names)
        else:
            above = told.get(reference.label((right_of, down_of - 1)), (0, 0, 0)) if down_of else (0, 0, 0)
            left = told.get(reference.label((right_of - 1, down_of)), (0, 0, 0)) if right_of else (0, 0, 0)
            coming = above[2] + left[1]
        if (name in told) != (coming > 0):
            return False
        if name in told:
            entered, right, down = told[name]
            staying = 1 if name in names else 0
            least = 0 if name in names else 1
            if entered != coming or entered != right + down + staying or min(right, down) < least:
                return False
    return True


class Interface(unittest.TestCase):
    def test_functions_are_defined_in_this_file(self):
        for name in ["is_possible", "stuck_diagonal", "routing_for", "is_routing"]:
            self.assertEqual(getattr(sets, name).__module__, "splitnames.sets")

    def test_example_of_is_possible(self):
        told = [is_possible(names) for names in [[0], [1], [1, 2], [3, 4, 5], [3, 4, 5, 7]]]
        self.assertEqual(told, [True, False, True, False, True])

    def test_example_of_stuck_diagonal(self):
        self.assertEqual([stuck_diagonal(names) for names in [[1], [3, 4, 5], [0, 3, 5], [1, 2]]], [0, 1, 2, None])

    def test_example_of_routings(self):
        told = [routing_for([1, 2]), is_routing([0, 2], [(0, 2, 1, 0), (2, 1, 0, 0)]),
                is_routing([0, 2], [(0, 2, 0, 1), (1, 1, 0, 0)])]
        self.assertEqual(told, [[(0, 2, 1, 1), (1, 1, 0, 0), (2, 1, 0, 0)], True, False])

    def test_example_of_impossible(self):
        with self.assertRaises(Impossible) as caught:
            routing_for([0, 3, 5])
        self.assertEqual(caught.exception.diagonal, 2)


class Possible(unittest.TestCase):
    def test_one_to_three_names_are_those_of_real_runs(self):
        for count, number in [(1, 1), (2, 3), (3, 12)]:
            ends = {tuple(sorted(names)) for names in reference.ends_of_the_grid(count)}
            told = [names for names in lists_below(10, count) if is_possible(names)]
            self.assertEqual(told, sorted(list(names) for names in ends))
            self.assertEqual(len(told), number)

    def test_one_to_five_names_are_those_that_the_outcomes_allow(self):
        for count, below, number in [(1, 10, 1), (2, 10, 3), (3, 12, 12), (4, 14, 56), (5, 15, None)]:
            told = [names for names in lists_below(below, count) if is_possible(names)]
            self.assertEqual(told, reference.possible_by_outcomes(count))
            if number is not None:
                self.assertEqual(len(told), number)

    def test_one_name(self):
        self.assertIs(is_possible([0]), True)
        for name in [1, 2, 3, 9] + FAR:
            self.assertIs(is_possible([name]), False)
            self.assertEqual(stuck_diagonal([name]), 0)

    def test_eight_names(self):
        self.assertIs(is_possible(list(range(8))), True)
        self.assertIs(is_possible([0, 2, 5, 9, 14, 20, 27, 35]), True)
        self.assertIs(is_possible([0, 1, 3, 6, 10, 15, 21, 28]), True)
        self.assertIs(is_possible([1, 2, 3, 4, 5, 6, 7, 36]), False)
        self.assertIs(is_possible(list(range(28, 36))), False)

    def test_greatest_names_are_below_the_bound_of_point_10(self):
        for count in range(1, 9):
            alone = [t * (t + 1) // 2 for t in range(count)]
            bound = count * (count + 1) // 2
            # All but the last of them stop in the first row or column, one in each cell.
            self.assertTrue(is_possible([t + name for t, name in enumerate(alone)]))
            self.assertTrue(is_possible(alone))
            self.assertEqual(max(t + name for t, name in enumerate(alone)), bound - 1)
            self.assertFalse(is_possible(alone[:-1] + [bound]))

    def test_names_of_real_runs_are_possible(self):
        for count in range(1, 9):
            for order, choose in reference.orders(range(20)):
                names = sorted(reference.grid_play(count, reference.whole_schedule(count, choose))[0])
                self.assertTrue(is_possible(names), (order, names))
                self.assertIsNone(stuck_diagonal(names))


class StuckDiagonal(unittest.TestCase):
    def check(self, names):
        expected = reference.first_stuck(names)
        self.assertEqual(stuck_diagonal(names), expected, names)
        self.assertIs(is_possible(names), expected is None)
        if expected is not None:
            with self.assertRaises(Impossible) as caught:
                routing_for(names)
            self.assertEqual(caught.exception.diagonal, expected)

    def test_all_lists_of_one_to_three_names_below_10(self):
        for many in [1, 2, 3]:
            for names in lists_below(10, many):
                self.check(names)

    def test_four_names(self):
        for names in lists_below(12, 4):
            self.check(names)

    def test_five_to_eight_names(self):
        for many, below in [(5, 16), (6, 22), (7, 29), (8, 18), (8, 37)]:
            for names in chosen_lists(many, below, many, 25):
                self.check(names)

    def test_each_diagonal_of_eight_names(self):
        for diagonal, names in [
            (3, [2, 4, 9, 20, 21, 23, 28, 30]), (4, [4, 9, 14, 20, 25, 27, 30, 35]), (5, [2, 8, 15, 18, 20, 23, 30, 34]),
            (6, [0, 4, 5, 9, 13, 22, 26, 31]), (7, [1, 4, 12, 13, 25, 27, 29, 30]), (None, [5, 10, 16, 17, 18, 19, 24, 32]),
        ]:
            self.check(names)
            self.assertEqual(stuck_diagonal(names), diagonal)

    def test_names_far_away(self):
        for far in FAR:
            self.check([far])
            self.check([0, far])
            self.check([1, far])
            self.check([1, 2, far])
            self.check([0, 1, 2, far, far + 1])
            self.check([0, 1, 2, 3, 4, 5, 6, far])
            self.check([far + k for k in range(8)])
        self.assertEqual(stuck_diagonal([1, 2, 4, 10 ** 20]), 3)


class Routings(unittest.TestCase):
    def lists(self):
        told = [names for many in [1, 2, 3, 4] for names in reference.possible_by_outcomes(many)]
        for many in [5, 6, 7, 8]:
            told += [names for names in chosen_lists(many, 3 * many, many, 120) if is_possible(names)][:12]
        return told + [[0, 2, 5, 9, 14, 20, 27, 35]]

    def test_routing_follows_point_12(self):
        for names in self.lists():
            routing = routing_for(names)
            self.assertIs(type(routing), list)
            for row in routing:
                self.assertEqual([type(row)] + [type(number) for number in row], [tuple] + [int] * 4)
            self.assertTrue(follows_point_12(names, routing), names)
            self.assertIs(is_routing(names, routing), True)

    def test_only_one_routing(self):
        self.assertEqual(routing_for([0]), [(0, 1, 0, 0)])
        self.assertEqual(routing_for([0, 1]), [(0, 2, 0, 1), (1, 1, 0, 0)])
        self.assertEqual(routing_for([0, 2]), [(0, 2, 1, 0), (2, 1, 0, 0)])
        # All but the cell 4 give no choice; there one goes down to the cell 7.
        self.assertEqual(routing_for([3, 4, 5, 7]), [
            (0, 4, 2, 2), (1, 2, 1, 1), (2, 2, 1, 1), (3, 1, 0, 0), (4, 2, 0, 1), (5, 1, 0, 0), (7, 1, 0, 0)])

    def test_all_routings_of_three_names(self):
        # Every list of rows in which each row is right for itself: exactly those of point [12] are routings.
        first = numbers_for(0, [3])
        second = [[None] + numbers_for(name, [1, 2]) for name in [1, 2]]
        third = [[None, (name, 1, 0, 0), (name, 2, 1, 1)] for name in [3, 4, 5]]
        for names in [[0, 1, 2], [0, 1, 4], [1, 2, 4], [0, 3, 5], [0, 2, 4]]:
            found = 0
            for rows in itertools.product(first, *second, *third):
                value = [row for row in rows if row is not None]
                told = is_routing(names, value)
                self.assertIs(told, follows_point_12(names, value), value)
                found += told
            self.assertEqual(found > 0, is_possible(names))

    def test_one_number_changed(self):
        for names in self.lists():
            routing = routing_for(names)
            for at, row in enumerate(routing):
                for part in range(4):
                    for number in [row[part] - 1, row[part] + 1, -1, 10 ** 40, None, str(row[part]), [row[part]],
                                   row[part] == 1, True, False]:
                        changed = row[:part] + (number,) + row[part + 1:]
                        if repr(changed) != repr(row):
                            self.assertIs(is_routing(names, routing[:at] + [changed] + routing[at + 1:]), False)

    def test_one_row_changed(self):
        for names in self.lists():
            routing = routing_for(names)
            for at, row in enumerate(routing):
                before, after = routing[:at], routing[at + 1:]
                self.assertFalse(is_routing(names, before + after))
                self.assertFalse(is_routing(names, before + [row, row] + after))
                self.assertFalse(is_routing(names, before + after + [row] if after else [row] + before + [row]))
                for other in [list(row), row[:3], row + (0,), (), None, row[0], [row], (row,), "0", {}, {row}, str(row)]:
                    self.assertFalse(is_routing(names, before + [other] + after))
                # Two numbers changed, so that the cell itself is still right.
                self.assertFalse(is_routing(names, before + [(row[0], row[1], row[2] + 1, row[3] - 1)] + after))
                self.assertFalse(is_routing(names, before + [(row[0], row[1] + 1, row[2] + 1, row[3])] + after))

    def test_cells_that_nobody_enters(self):
        self.assertFalse(is_routing([0, 1], [(0, 2, 0, 1), (1, 1, 0, 0), (2, 0, 0, 0)]))
        self.assertFalse(is_routing([0, 1], [(0, 2, 0, 1), (1, 1, 0, 0), (10 ** 40, 0, 0, 0)]))
        self.assertFalse(is_routing([0, 1], [(0, 2, 0, 1), (1, 1, 0, 0), (2, 1, 0, 0)]))
        self.assertFalse(is_routing([0, 1], [(-1, 0, 0, 0), (0, 2, 0, 1), (1, 1, 0, 0)]))

    def test_routing_of_another_list(self):
        lists = reference.possible_by_outcomes(3)
        for one, other in itertools.product(lists, repeat=2):
            self.assertIs(is_routing(one, routing_for(other)), one == other)
        self.assertFalse(is_routing([0, 1], routing_for([0, 1, 2])))
        self.assertFalse(is_routing([1], [(0, 1, 1, 0), (1, 1, 0, 0)]))
        self.assertFalse(is_routing([10 ** 20], [(0, 1, 0, 0)]))

    def test_in_another_cell_someone_goes_each_way(self):
        self.assertFalse(is_routing([1, 3], [(0, 2, 0, 2), (1, 2, 0, 1), (3, 1, 0, 0)]))
        self.assertFalse(is_routing([3, 4], [(0, 2, 0, 2), (1, 2, 1, 1), (3, 1, 0, 0), (4, 1, 0, 0)]))

    def test_any_value(self):
        good = [(0, 2, 0, 1), (1, 1, 0, 0)]
        self.assertTrue(is_routing([0, 1], good))
        for value in [None, True, False, 0, "", "0", b"", [], (), {}, {0}, tuple(good), [tuple(good)], [good], {0: good},
                      [list(row) for row in good], good[::-1], [None], [0], [()], [(0,)], [[]], [(0, 2, 0, 1), [1, 1, 0, 0]],
                      [((0, 2, 0, 1), (1, 1, 0, 0))], [({}, [], (), {0})], [(0, 2, 0, 1)] * 2000]:
            with self.subTest(value=value):
                self.assertIs(is_routing([0, 1], value), False)


class WrongNames(unittest.TestCase):
    def test_each_function(self):
        for names in wrong.NAMES:
            with self.subTest(names=names):
                self.assertRaises(InvalidNames, is_possible, names)
                self.assertRaises(InvalidNames, stuck_diagonal, names)
                self.assertRaises(InvalidNames, routing_for, names)
                for value in [None, [], [(0, 1, 0, 0)], [(0, 1, 0)], 7]:
                    self.assertRaises(InvalidNames, is_routing, names, value)


class NewListsAndUnchangedArguments(unittest.TestCase):
    def test_arguments_are_unchanged(self):
        for names in [[0], [1, 2, 4], [0, 3, 5], [1, 0], [0, True], [0, [1]], [], (0, 1)]:
            for call in [is_possible, stuck_diagonal, routing_for, lambda given: is_routing(given, given),
                         lambda given: is_routing([0], given)]:
                kept = copy.deepcopy(names)
                try:
                    call(names)
                except ValueError:
                    pass
                self.assertEqual(repr(names), repr(kept))
        for value in [[(0, 2, 0, 1), (1, 1, 0, 0)], [(1, 1, 0, 0), (0, 2, 0, 1)], [[0, 2, 0, 1]], [({}, [0], 0, 1)]]:
            kept = copy.deepcopy(value)
            is_routing([0, 1], value)
            self.assertEqual(repr(value), repr(kept))

    def test_changing_a_result_has_no_effect(self):
        names = [1, 2]
        first = routing_for(names)
        kept = list(first)
        first[0] = "changed"
        first.append("changed")
        names.append(4)
        self.assertEqual(routing_for([1, 2]), kept)
        self.assertIsNot(routing_for([1, 2]), routing_for([1, 2]))

    def test_equal_arguments_give_equal_results(self):
        for names in [[1, 2, 4], [0, 1, 2, 3, 4, 5, 6, 7], [0, 4, 5, 8]]:
            if is_possible(names):
                self.assertEqual(routing_for(names), routing_for(list(names)))


if __name__ == "__main__":
    unittest.main()
