"""What the document promises between the files, and of the whole package."""

import ast
import inspect
import pathlib
import random
import unittest

import reference
from splitnames import errors
from splitnames.counting import count_sets, nth_set, set_number, walk_sets
from splitnames.desk import Desk
from splitnames.grid import cell_of, most_names, name_of
from splitnames.runs import Run, names_after
from splitnames.schedules import gives_names, schedule_for
from splitnames.sets import is_possible, is_routing, routing_for, stuck_diagonal
from splitnames.splitters import is_outcome
from splitnames.taken import can_be_taken, full_sets, least_count, next_names
from splitnames.texts import read_names, read_run, show_names, show_run

PACKAGE = pathlib.Path(__file__).resolve().parent.parent / "splitnames"


def finished_runs(most, seeds):
    """(count, schedule) of runs in which all have finished, in many orders."""
    for count in range(1, most + 1):
        for _, choose in reference.orders(range(seeds)):
            yield count, reference.whole_schedule(count, choose)


def routing_of_run(count, schedule):
    """The routing that a run of the grid has taken."""
    told = {}
    coming = {(0, 0): count}
    for _, cell, result, after in reference.walk(count, schedule):
        if result is not None:
            row = told.setdefault(cell, [0, 0])
            if result != "stop":
                row[["right", "down"].index(result)] += 1
                coming[after] = coming.get(after, 0) + 1
    return sorted((reference.label(cell), coming[cell], right, down) for cell, (right, down) in told.items())


class FinishedRuns(unittest.TestCase):
    def test_names_are_a_possible_list_with_a_routing(self):
        for count, schedule in finished_runs(8, 8):
            got = names_after(count, schedule)
            names = sorted(got)
            self.assertIs(is_possible(names), True)
            self.assertIsNone(stuck_diagonal(names))
            self.assertIs(is_routing(names, routing_for(names)), True)
            self.assertIs(is_routing(names, routing_of_run(count, schedule)), True)
            self.assertIs(gives_names(got, schedule), True)
            self.assertIs(gives_names(got, schedule_for(got)), True)
            self.assertLess(names[-1], most_names(count))
            self.assertIs(can_be_taken(count, names), True)
            self.assertEqual(least_count(names), count)
            self.assertEqual(next_names(count, names), [])
            if count < 6:
                self.assertEqual(nth_set(count, set_number(names)), names)
                self.assertEqual(list(full_sets(count, names)), [names])

    def test_results_of_each_cell_are_an_outcome(self):
        for count, schedule in finished_runs(8, 4):
            results = {}
            for _, cell, result, _ in reference.walk(count, schedule):
                if result is not None:
                    results.setdefault(cell, []).append(result)
            for told in results.values():
                self.assertIs(is_outcome(told), True)

    def test_rows_and_columns_that_are_entered_contain_a_name(self):
        for count, schedule in finished_runs(8, 4):
            run = Run.read(show_run(count, schedule))
            cells = [(0, 0)] + [cell_of(name) for _, _, name in run.events()]
            named = [cell_of(name) for name in run.names_now]
            for part in [0, 1]:
                self.assertEqual({cell[part] for cell in cells}, {cell[part] for cell in named})

    def test_neighbouring_cells_are_entered_by_few(self):
        for count, schedule in finished_runs(8, 4):
            entered = {(0, 0): count}
            for _, _, name in [event for event in Run.read(show_run(count, schedule)).events() if event[1] != "stop"]:
                entered[cell_of(name)] = entered.get(cell_of(name), 0) + 1
            for diagonal in range(count + 1):
                for first in range(diagonal + 1):
                    for many in range(1, diagonal + 2 - first):
                        cells = [(right, diagonal - right) for right in range(first, first + many)]
                        self.assertLessEqual(sum(entered.get(cell, 0) for cell in cells), max(0, count - diagonal + many - 1))


class Moments(unittest.TestCase):
    def test_names_at_each_moment_can_be_taken(self):
        for count, schedule in finished_runs(8, 1):
            run = Run(count)
            last = []
            for process in schedule:
                told = run.step(process)
                names = sorted(name for name in run.names_now if name is not None)
                if told is not None and told[0] == "stop":
                    self.assertIs(can_be_taken(count, names), True)
                    self.assertLessEqual(least_count(names), count)
                    if last:
                        self.assertIn(told[1], next_names(count, last))
                    last = names

    def test_taken_first_in_a_run(self):
        # A list that can be taken is part of a full list, and the schedule of that one takes it.
        for count in [2, 3, 4]:
            for full in walk_sets(count):
                for name in full:
                    self.assertIs(can_be_taken(count, [name]), True)
                    self.assertIn(full, list(full_sets(count, [name])))
                self.assertEqual(sorted(names_after(count, schedule_for(full))), full)

    def test_next_names_and_full_sets_agree(self):
        for count in range(1, 6):
            for name in range(most_names(count) + 1):
                fulls = list(full_sets(count, [name]))
                others = sorted({other for full in fulls for other in full} - {name})
                self.assertEqual(next_names(count, [name]), others)
                self.assertIs(can_be_taken(count, [name]), fulls != [])

    def test_single_names_by_their_diagonal(self):
        for name in range(45):
            diagonal = sum(cell_of(name))
            self.assertEqual(least_count([name]), diagonal + 1 if diagonal < 8 else None)
            if diagonal < 5:
                self.assertIn(name, {other for full in walk_sets(diagonal + 1) for other in full})
                self.assertFalse([full for many in range(1, diagonal + 1) for full in walk_sets(many) if name in full])


class PossibleLists(unittest.TestCase):
    def test_each_one_has_a_routing_and_a_schedule(self):
        for count in range(1, 6):
            lists = list(walk_sets(count))
            self.assertEqual(len(lists), count_sets(count))
            for number, names in enumerate(lists):
                self.assertIs(is_possible(names), True)
                self.assertIs(is_routing(names, routing_for(names)), True)
                self.assertEqual([nth_set(count, number), set_number(names)], [names, number])
                self.assertEqual(read_names(show_names(names)), names)
                order = random.Random(number).sample(names, count)
                schedule = schedule_for(order)
                self.assertEqual(names_after(count, schedule), order)
                self.assertIs(is_routing(names, routing_of_run(count, schedule)), True)

    def test_a_schedule_step_by_step(self):
        for count in range(1, 9):
            for names in [list(range(count))[::-1], [t * (t + 3) // 2 for t in range(count)]]:
                run = Run(count)
                schedule = schedule_for(names)
                for process in schedule:
                    self.assertIsNone(run.names_now[process])
                    run.step(process)
                self.assertEqual([run.names_now, run.steps_done], [names, schedule])
                self.assertEqual(read_run(show_run(count, schedule)), (count, schedule))
                self.assertEqual([name_of(*cell_of(name)) for name, _ in run.places_now], names)


class DeskAndFunctions(unittest.TestCase):
    def test_desk_answers_as_the_functions_do(self):
        desk = Desk()
        chance = random.Random(3)
        for _ in range(300):
            names = sorted(chance.sample(range(38), chance.randrange(1, 9)))
            text = show_names(names)
            self.assertEqual(desk.execute(f"possible {text}") == "yes", is_possible(names))
            self.assertEqual(desk.execute(f"stuck {text}").replace("none", "None"), str(stuck_diagonal(names)))
            self.assertEqual(desk.execute(f"least {text}").replace("none", "None"), str(least_count(names)))
            if is_possible(names):
                self.assertEqual(f"8 {desk.execute(f'plan {text}')}", show_run(8, schedule_for(names)))
            else:
                self.assertRaises(errors.Impossible, desk.execute, f"plan {text}")

    def test_plans_of_possible_lists(self):
        desk = Desk()
        for count in range(1, 6):
            for names in walk_sets(count):
                text = show_names(names)
                self.assertEqual([desk.execute(f"{word} {text}") for word in ["possible", "stuck", "least"]],
                                 ["yes", "none", str(count)])
                plan = desk.execute(f"plan {text}")
                self.assertEqual(names_after(*read_run(f"{count} {plan}")), names)


class WholePackage(unittest.TestCase):
    def test_every_error_class_stands_directly_under_split_error(self):
        made = [value for value in vars(errors).values() if inspect.isclass(value)]
        self.assertEqual(len(made), 15)
        for value in made:
            self.assertEqual(value.__bases__, (ValueError,) if value is errors.SplitError else (errors.SplitError,))

    def test_only_errors_of_the_package_are_raised(self):
        for path in PACKAGE.glob("*.py"):
            for node in ast.walk(ast.parse(path.read_text())):
                if isinstance(node, ast.Raise):
                    self.assertTrue(issubclass(getattr(errors, node.exc.func.id), errors.SplitError))

    def test_generators(self):
        for made in [walk_sets(2), full_sets(2, [0]), Run(1).events()]:
            self.assertTrue(inspect.isgenerator(made))


if __name__ == "__main__":
    unittest.main()
