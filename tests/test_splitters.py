import copy
import itertools
import unittest

import reference
import wrong
from splitnames import splitters
from splitnames.errors import InvalidCount, InvalidOutcome, InvalidSchedule, TooLarge
from splitnames.splitters import is_outcome, open_results, outcome_schedule, run_splitter

WORDS = ["down", "right", "stop"]
# In a splitter a process that goes right or down has finished, in the grid it has not.
WRONG_SCHEDULES = wrong.SCHEDULES + [[0, 0, 0, 1, 1, 1], [0, 0, 0, 1, 1, 0, 1]]


def allowed(results):
    """The three properties of point [7], for a list of words."""
    return (results.count("stop") <= 1 and set(results) != {"right"} and set(results) != {"down"})


class Interface(unittest.TestCase):
    def test_functions_are_defined_in_this_file(self):
        for name in ["run_splitter", "is_outcome", "outcome_schedule", "open_results"]:
            self.assertEqual(getattr(splitters, name).__module__, "splitnames.splitters")

    def test_example_of_run_splitter(self):
        told = [run_splitter(2, [0, 0, 1, 1, 0, 0, 1, 1]), run_splitter(2, [0, 0, 0, 1, 1])]
        self.assertEqual(told, [["down", "stop"], [None, "right"]])

    def test_example_of_is_outcome(self):
        told = [is_outcome(value) for value in [["stop"], ["right", "right"], ["down", "right"], ["stop", "stop"]]]
        self.assertEqual(told, [True, False, True, False])

    def test_example_of_open_results(self):
        told = [open_results(2, [0, 0, 0]), open_results(2, [0, 0, 0, 1])]
        self.assertEqual(told, [[["down", "stop"], ["right"]], [["down"], ["right"]]])


class RunSplitter(unittest.TestCase):
    def test_empty_schedule(self):
        for count in [1, 2, 39, 40]:
            self.assertEqual(run_splitter(count, []), [None] * count)

    def test_alone_a_process_stops_after_four_steps(self):
        for count in [1, 2, 39, 40]:
            for process in [0, count - 1]:
                for steps in range(5):
                    results = [None] * count
                    if steps == 4:
                        results[process] = "stop"
                    self.assertEqual(run_splitter(count, [process] * steps), results)

    def test_right_after_two_steps_if_y_is_true(self):
        self.assertEqual(run_splitter(2, [0, 0, 1, 0, 1]), [None, "right"])

    def test_y_is_read_before_it_is_written(self):
        self.assertEqual(run_splitter(2, [0, 0, 1, 1, 0]), [None, None])

    def test_down_if_x_was_overwritten(self):
        self.assertEqual(run_splitter(2, [0, 0, 0, 1, 0]), ["down", None])

    def test_one_that_goes_right_overwrites_x(self):
        self.assertEqual(run_splitter(2, [0, 0, 0, 1, 1, 0]), ["down", "right"])

    def test_later_processes_go_right(self):
        self.assertEqual(run_splitter(3, [2] * 4 + [0] * 2 + [1] * 2), ["right", "right", "stop"])

    def test_forty_processes_in_rounds(self):
        rounds = list(range(40)) * 4
        self.assertEqual(run_splitter(40, rounds), ["down"] * 39 + ["stop"])

    def test_every_state_of_up_to_four_processes(self):
        for count in range(1, 5):
            for (_, _, results), schedule in reference.states(count).items():
                self.assertEqual(run_splitter(count, schedule), list(results))

    def test_wrong_counts(self):
        for count in wrong.COUNTS:
            for schedule in [[], [0], None, [True], (0,)]:
                with self.subTest(count=count, schedule=schedule):
                    self.assertRaises(InvalidCount, run_splitter, count, schedule)

    def test_wrong_schedules(self):
        for schedule in WRONG_SCHEDULES:
            with self.subTest(schedule=schedule):
                self.assertRaises(InvalidSchedule, run_splitter, 2, schedule)

    def test_processes_at_the_edge(self):
        for count in [1, 2, 39, 40]:
            self.assertEqual(run_splitter(count, [count - 1]), [None] * count)
            self.assertRaises(InvalidSchedule, run_splitter, count, [count])
            self.assertRaises(InvalidSchedule, run_splitter, count, [-1])

    def test_process_that_has_finished(self):
        for schedule in [[0] * 4, [1, 1, 1, 0, 0]]:
            run_splitter(2, schedule)
            self.assertRaises(InvalidSchedule, run_splitter, 2, schedule + [0])


class IsOutcome(unittest.TestCase):
    def test_all_lists_of_words(self):
        for many in range(1, 8):
            for results in itertools.product(WORDS, repeat=many):
                self.assertEqual(is_outcome(list(results)), allowed(list(results)), results)

    def test_exactly_the_outcomes_of_schedules(self):
        for count in range(1, 6):
            ends = set(state[2] for state in reference.states(count) if None not in state[2])
            told = set(row for row in itertools.product(WORDS, repeat=count) if is_outcome(list(row)))
            self.assertEqual(told, ends)

    def test_long_lists(self):
        for many in [40, 41, 1999, 2000, 2001]:
            self.assertIs(is_outcome(["stop"] + ["down"] * (many - 1)), True)
            self.assertIs(is_outcome(["right"] * (many - 1) + ["down"]), True)
            self.assertIs(is_outcome(["right"] * many), False)
            self.assertIs(is_outcome(["down"] * many), False)
            self.assertIs(is_outcome(["stop"] + ["right"] * (many - 2) + ["stop"]), False)

    def test_other_values(self):
        for value in [None, True, False, 0, 1, "", "stop", b"stop", [], (), ("stop",), {"stop"}, {"stop": 1},
                      [None], ["stop", None], [["stop"]], [("stop",)], [b"stop"], ["Stop"], ["stop "], [""],
                      ["stop", "left"], ["down", "right", True], [1], ["st"], [{}], [[[["stop"]]], "stop"],
                      ["downright"], ["stop", []]]:
            with self.subTest(value=value):
                self.assertIs(is_outcome(value), False)

    def test_returns_a_bool(self):
        self.assertIs(is_outcome(["stop"]), True)
        self.assertIs(is_outcome(["right"]), False)
        self.assertIs(is_outcome(["down"]), False)


class OutcomeSchedule(unittest.TestCase):
    def test_all_outcomes_of_up_to_seven_processes(self):
        for many in range(1, 8):
            for row in itertools.product(WORDS, repeat=many):
                results = list(row)
                if allowed(results):
                    schedule = outcome_schedule(results)
                    self.assertIs(type(schedule), list)
                    self.assertEqual(reference.play(many, schedule), results)
                    self.assertEqual(run_splitter(many, schedule), results)

    def test_one_result(self):
        self.assertEqual(outcome_schedule(["stop"]), [0, 0, 0, 0])

    def test_long_outcomes(self):
        for many in [39, 40, 41, 1999, 2000, 2001]:
            for results in [
                ["stop"] + ["down"] * (many - 1),
                ["right"] * (many - 1) + ["stop"],
                ["down", "right"] * (many // 2) + ["right"] * (many - many // 2 * 2),
                ["down"] * (many - 1) + ["right"],
                ["down"] + ["right"] * (many - 1),
                ["right"] * (many // 2) + ["stop"] + ["down"] * (many - many // 2 - 1),
            ]:
                schedule = outcome_schedule(results)
                self.assertEqual(reference.play(many, schedule), results)
                if many <= 40:
                    self.assertEqual(run_splitter(many, schedule), results)

    def test_wrong_outcomes(self):
        for value in [None, True, 0, "stop", [], (), ("stop",), ["right"], ["down"], ["right"] * 2, ["down"] * 3,
                      ["stop", "stop"], ["stop", None], [None], [True], [["stop"]], ["stop", "left"], {"stop": 0},
                      ["down"] * 2000, ["stop"] * 2 + ["right"] * 1998]:
            with self.subTest(value=value):
                self.assertRaises(InvalidOutcome, outcome_schedule, value)


class OpenResults(unittest.TestCase):
    def test_every_state_of_up_to_five_processes(self):
        for count in range(1, 6):
            found, told = reference.open_by_search(count)
            for state, schedule in found.items():
                expected = [sorted(results) for results in told[state]]
                self.assertEqual(open_results(count, schedule), expected, (count, schedule))

    def test_empty_schedule(self):
        self.assertEqual(open_results(1, []), [["stop"]])
        for count in [2, 3, 4, 5]:
            self.assertEqual(open_results(count, []), [["down", "right", "stop"]] * count)

    def test_finished_process_has_its_result(self):
        self.assertEqual(open_results(2, [1] * 4), [["right"], ["stop"]])
        self.assertEqual(open_results(1, [0] * 4), [["stop"]])

    def test_too_many_processes(self):
        for count in [6, 7, 39, 40]:
            with self.assertRaises(TooLarge) as caught:
                open_results(count, [0, 0, 0])
            self.assertEqual(caught.exception.limit, 5)

    def test_count_is_asked_first(self):
        for count in wrong.COUNTS:
            for schedule in [[], None, [True], [-1], [0] * 5]:
                with self.subTest(count=count, schedule=schedule):
                    self.assertRaises(InvalidCount, open_results, count, schedule)

    def test_schedule_is_asked_before_the_limit(self):
        for count in [2, 5, 6, 40]:
            for schedule in [None, (), (0,), [True], [False], [-1], [count], [0] * 5, [0, [0]], "0"]:
                with self.subTest(count=count, schedule=schedule):
                    self.assertRaises(InvalidSchedule, open_results, count, schedule)

    def test_wrong_schedules(self):
        for schedule in WRONG_SCHEDULES:
            with self.subTest(schedule=schedule):
                self.assertRaises(InvalidSchedule, open_results, 2, schedule)


class NewListsAndUnchangedArguments(unittest.TestCase):
    def check_argument(self, call, value):
        kept = copy.deepcopy(value)
        try:
            call(value)
        except ValueError:
            pass
        self.assertEqual(value, kept)
        self.assertEqual(repr(value), repr(kept))

    def test_arguments_are_unchanged(self):
        for schedule in [[], [0, 0, 1, 1, 0], [0, 0, 0, 0, 0], [0, True], [0, [1, 2]], [2], [0] * 4 + [1] * 2]:
            self.check_argument(lambda value: run_splitter(2, value), schedule)
            self.check_argument(lambda value: open_results(2, value), schedule)
            self.check_argument(lambda value: run_splitter(value, []), schedule)
        for outcome in [["stop"], ["right", "down", "stop", "right"], ["right"], [["stop"], "down"], []]:
            self.check_argument(is_outcome, outcome)
            self.check_argument(outcome_schedule, outcome)

    def check_results(self, call):
        """Change the result, and each list in it: the next result does not show it."""
        first = call()
        kept = copy.deepcopy(first)
        for item in first:
            if isinstance(item, list):
                item.append("changed")
        first.append("changed")
        first[0] = "changed"
        second = call()
        self.assertEqual(second, kept)
        self.assertIsNot(second, first)

    def test_changing_a_result_has_no_effect(self):
        schedule = [0, 0, 0, 1, 1]
        outcome = ["stop"]
        self.check_results(lambda: run_splitter(2, schedule))
        self.check_results(lambda: run_splitter(3, []))
        self.check_results(lambda: open_results(2, schedule))
        self.check_results(lambda: open_results(3, []))
        self.check_results(lambda: outcome_schedule(outcome))
        self.check_results(lambda: outcome_schedule(["right", "down", "down"]))
        self.assertEqual(schedule, [0, 0, 0, 1, 1])
        self.assertEqual(outcome, ["stop"])

    def test_lists_in_a_result_are_different_objects(self):
        told = open_results(5, [])
        told[0].append("changed")
        self.assertEqual(told[1:], [["down", "right", "stop"]] * 4)

    def test_changing_an_argument_afterwards_has_no_effect(self):
        schedule = [0] * 4
        told = run_splitter(2, schedule)
        still_open = open_results(2, schedule)
        outcome = ["down", "stop"]
        made = outcome_schedule(outcome)
        kept = list(made)
        schedule[0] = 1
        outcome.reverse()
        self.assertEqual([told, still_open], [["stop", None], [["stop"], ["right"]]])
        self.assertEqual(made, kept)

    def test_equal_arguments_give_equal_results(self):
        for outcome in [["stop"], ["right", "down"], ["down", "right", "stop", "down"]]:
            self.assertEqual(outcome_schedule(outcome), outcome_schedule(list(outcome)))


if __name__ == "__main__":
    unittest.main()
