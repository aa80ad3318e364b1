import copy
import itertools
import unittest

import reference
import wrong
from splitnames import runs
from splitnames.errors import InvalidCount, InvalidProcess, InvalidSchedule, InvalidText, NothingToUndo
from splitnames.runs import Run, names_after
from splitnames.texts import show_run

WRONG_PROCESSES = [True, False, None, -1, 2, 10 ** 40, "0", b"0", [], [0], (0,), {}, {0}, [[[0]]], (), ""]


def picture(run):
    """All that an object of the class Run tells."""
    return [run.process_count, run.steps_done, run.names_now, run.places_now, list(run.events()), len(run)]


def expected(count, schedule):
    names, places, events = reference.grid_play(count, schedule)
    return [count, list(schedule), names, places, events, len(schedule)]


def undo_all(run):
    many = 0
    while True:
        try:
            run.undo()
        except NothingToUndo:
            return many
        many += 1


class Interface(unittest.TestCase):
    def test_defined_in_this_file(self):
        self.assertEqual(names_after.__module__, "splitnames.runs")
        self.assertEqual(Run.__module__, "splitnames.runs")
        self.assertIs(runs.Run, Run)

    def test_members_are_defined_in_the_class_itself(self):
        for name in ["step", "play", "finish", "undo", "events", "__len__", "__eq__", "__init__"]:
            self.assertIn(name, vars(Run))
        for name in ["process_count", "steps_done", "names_now", "places_now"]:
            self.assertIsInstance(vars(Run)[name], property)
        self.assertIsInstance(vars(Run)["read"], classmethod)

    def test_first_example(self):
        run = Run(2)
        told = run.play(0, 0, 1, 0, 0, 1)
        shown = [told, run.places_now, run.finish(0), run.names_now, len(run), list(run.events())]
        self.assertEqual(shown, [
            [None, None, None, None, ("down", 1), ("right", 2)], [(1, 0), (2, 0)], 1, [1, None], 10,
            [(0, "down", 1), (1, "right", 2), (0, "stop", 1)]])

    def test_second_example(self):
        run = Run(2)
        run.play(0, 0, 1, 0, 0, 1)
        name = run.finish(0)
        self.assertIsNone(run.undo())
        self.assertEqual([name, run.steps_done, names_after(2, [0, 0, 0, 0, 1, 1]), Run.MOST],
                         [1, [0, 0, 1, 0, 0, 1], [0, None], 40])


class NamesAfter(unittest.TestCase):
    def test_empty_schedule(self):
        for count in [1, 2, 39, 40]:
            self.assertEqual(names_after(count, []), [None] * count)

    def test_alone_a_process_gets_the_name_0(self):
        for count in [1, 2, 39, 40]:
            for process in [0, count - 1]:
                for steps in range(5):
                    names = [None] * count
                    if steps == 4:
                        names[process] = 0
                    self.assertEqual(names_after(count, [process] * steps), names)

    def test_one_after_the_other_goes_right(self):
        schedule = [0] * 4 + [1] * 6 + [2] * 8 + [3] * 10
        self.assertEqual(names_after(4, schedule), [0, 2, 5, 9])
        self.assertEqual(names_after(4, schedule[:-1]), [0, 2, 5, None])

    def test_down_with_the_other_number_in_x(self):
        self.assertEqual(names_after(2, [0, 1] * 4), [None, 0])
        self.assertEqual(names_after(2, [0, 1] * 4 + [0] * 4), [1, 0])

    def test_every_short_schedule(self):
        for count, most in [(1, 6), (2, 10), (3, 6)]:
            for many in range(most + 1):
                for schedule in itertools.product(range(count), repeat=many):
                    try:
                        names = reference.grid_play(count, schedule)[0]
                    except KeyError:
                        self.assertRaises(InvalidSchedule, names_after, count, list(schedule))
                    else:
                        self.assertEqual(names_after(count, list(schedule)), names)

    def test_wrong_counts(self):
        for count in wrong.COUNTS:
            for schedule in [[], [0], None, [True], (0,), [-1], [0] * 5]:
                with self.subTest(count=count, schedule=schedule):
                    self.assertRaises(InvalidCount, names_after, count, schedule)

    def test_wrong_schedules(self):
        for schedule in wrong.SCHEDULES:
            with self.subTest(schedule=schedule):
                self.assertRaises(InvalidSchedule, names_after, 2, schedule)

    def test_processes_at_the_edge(self):
        for count in [1, 2, 39, 40]:
            self.assertEqual(names_after(count, [count - 1]), [None] * count)
            self.assertRaises(InvalidSchedule, names_after, count, [count])
            self.assertRaises(InvalidSchedule, names_after, count, [-1])


class Step(unittest.TestCase):
    def test_result_and_name(self):
        run = Run(3)
        self.assertEqual([run.step(0) for _ in range(4)], [None, None, None, ("stop", 0)])
        self.assertEqual([run.step(2), run.step(2)], [None, ("right", 2)])
        self.assertEqual([run.step(1), run.step(1)], [None, ("right", 2)])
        self.assertEqual([run.step(process) for process in [1, 2, 1, 2, 1, 2]], [None] * 6)
        self.assertEqual([run.step(1), run.step(2)], [("down", 4), ("stop", 2)])

    def test_new_run(self):
        for count in [1, 2, 39, 40]:
            self.assertEqual(picture(Run(count)), [count, [], [None] * count, [(0, 0)] * count, [], 0])

    def test_wrong_counts(self):
        for count in wrong.COUNTS:
            with self.subTest(count=count):
                self.assertRaises(InvalidCount, Run, count)

    def test_places(self):
        run = Run(2)
        for number in range(4):
            self.assertEqual(run.places_now, [(0, 0), (0, number)])
            run.step(1)
        self.assertEqual(run.places_now, [(0, 0), (0, 4)])
        run.play(0, 0)
        self.assertEqual(run.places_now, [(2, 0), (0, 4)])
        run.step(0)
        self.assertEqual(run.places_now, [(2, 1), (0, 4)])

    def test_wrong_processes_change_nothing(self):
        run = Run(2)
        run.play(1, 1, 0)
        kept = picture(run)
        for process in WRONG_PROCESSES:
            with self.subTest(process=process):
                self.assertRaises(InvalidProcess, run.step, process)
                self.assertRaises(InvalidProcess, run.finish, process)
                self.assertRaises(InvalidProcess, run.play, process)
                self.assertEqual(picture(run), kept)
        self.assertEqual(undo_all(run), 1)

    def test_process_that_has_finished(self):
        run = Run(2)
        run.finish(1)
        kept = picture(run)
        for call in [run.step, run.finish, run.play]:
            self.assertRaises(InvalidProcess, call, 1)
            self.assertEqual(picture(run), kept)
        self.assertEqual(undo_all(run), 1)

    def test_processes_at_the_edge(self):
        for count in [1, 2, 39, 40]:
            run = Run(count)
            self.assertIsNone(run.step(count - 1))
            self.assertRaises(InvalidProcess, run.step, count)
            self.assertRaises(InvalidProcess, run.step, -1)
            self.assertEqual(run.finish(count - 1), 0)


class Play(unittest.TestCase):
    def test_same_as_steps(self):
        for order, choose in reference.orders(range(3)):
            schedule = reference.whole_schedule(5, choose)
            stepping, playing = Run(5), Run(5)
            for at in range(0, len(schedule), 20):
                part = schedule[at:at + 20]
                self.assertEqual(playing.play(*part), [stepping.step(process) for process in part], order)
                self.assertEqual(picture(playing), picture(stepping))

    def test_without_processes_nothing_changes(self):
        run = Run(2)
        self.assertEqual(run.play(), [])
        self.assertEqual(picture(run), picture(Run(2)))
        self.assertRaises(NothingToUndo, run.undo)
        run.step(0)
        self.assertEqual(run.play(), [])
        run.undo()
        self.assertEqual(len(run), 0)
        self.assertRaises(NothingToUndo, run.undo)

    def test_last_process_wrong(self):
        for last in WRONG_PROCESSES:
            for good in [[0], [0, 1, 0, 1], [0, 0, 0], [1] * 5]:
                with self.subTest(last=last, good=good):
                    run = Run(2)
                    run.finish(0)
                    run.undo()
                    run.step(1)
                    kept = picture(run)
                    self.assertRaises(InvalidProcess, run.play, *good, last)
                    self.assertEqual(picture(run), kept)
                    # What was reverted inside the call does not come back by an undo.
                    self.assertEqual(undo_all(run), 1)
                    self.assertEqual(picture(run), picture(Run(2)))

    def test_process_that_finishes_within_the_play(self):
        run = Run(2)
        run.play(0, 0)
        kept = picture(run)
        self.assertRaises(InvalidProcess, run.play, 0, 0, 1, 0)
        self.assertEqual(picture(run), kept)
        self.assertEqual(run.play(0, 0, 1), [None, ("stop", 0), None])

    def test_after_an_error_the_shared_variables_are_as_before(self):
        run = Run(2)
        run.step(0)
        # The play would write 1 into X of the cell 0 and true into Y.
        self.assertRaises(InvalidProcess, run.play, 1, 1, 1, 2)
        self.assertEqual(run.play(0, 0, 0), [None, None, ("stop", 0)])

    def test_twenty_processes(self):
        run = Run(20)
        self.assertEqual(run.play(*range(20)), [None] * 20)
        self.assertEqual(len(run), 20)
        run.undo()
        self.assertEqual(picture(run), picture(Run(20)))


class Finish(unittest.TestCase):
    def test_alone(self):
        run = Run(3)
        self.assertEqual([run.finish(2), run.finish(0), run.finish(1)], [0, 2, 5])
        self.assertEqual(run.steps_done, [2] * 4 + [0] * 6 + [1] * 8)
        self.assertEqual(run.names_now, [2, 5, 0])

    def test_every_process_finishes_alone_from_every_point_of_a_run(self):
        for order, choose in reference.orders(range(2)):
            schedule = reference.whole_schedule(4, choose)
            for many in range(len(schedule)):
                for process in range(4):
                    run = Run.read(show_run(4, schedule[:many]))
                    if run.names_now[process] is None:
                        name = run.finish(process)
                        self.assertEqual(run.names_now[process], name)
                        own = run.steps_done[many:]
                        self.assertEqual(own, [process] * len(own))
                        self.assertEqual(picture(run), expected(4, schedule[:many] + own))
                        run.undo()
                        self.assertEqual(run.steps_done, schedule[:many])

    def test_is_one_change(self):
        run = Run(2)
        run.step(0)
        run.finish(0)
        self.assertEqual(len(run), 4)
        run.undo()
        self.assertEqual(run.steps_done, [0])
        self.assertEqual(undo_all(run), 1)


class Undo(unittest.TestCase):
    def test_nothing_to_undo(self):
        for run in [Run(1), Run(40), Run.read("2 0,0,1")]:
            kept = picture(run)
            self.assertRaises(NothingToUndo, run.undo)
            self.assertEqual(picture(run), kept)

    def test_after_each_kind_of_change(self):
        for change in [lambda run: run.step(0), lambda run: run.play(0, 1, 1, 0), lambda run: run.finish(1),
                       lambda run: run.play(1)]:
            run = Run(3)
            run.play(0, 1, 2, 0, 1)
            kept = picture(run)
            change(run)
            self.assertNotEqual(picture(run), kept)
            self.assertIsNone(run.undo())
            self.assertEqual(picture(run), kept)
            self.assertEqual(undo_all(run), 1)
            self.assertEqual(picture(run), picture(Run(3)))

    def test_shared_variables_come_back(self):
        run = Run(2)
        run.step(0)
        run.play(1, 1, 1)
        run.undo()
        self.assertEqual(run.finish(0), 0)
        run = Run(2)
        run.play(0, 0, 0)
        run.finish(1)
        run.undo()
        self.assertEqual(run.step(0), ("stop", 0))

    def test_all_changes_back_and_forth(self):
        run = Run(3)
        pictures = [picture(run)]
        for change in [lambda: run.step(1), lambda: run.play(2, 0, 1), lambda: run.finish(2), lambda: run.step(0),
                       lambda: run.play(1, 1), lambda: run.finish(1), lambda: run.finish(0)]:
            change()
            pictures.append(picture(run))
            run.undo()
            self.assertEqual(picture(run), pictures[-2])
            change()
            self.assertEqual(picture(run), pictures[-1])
        for kept in reversed(pictures[:-1]):
            run.undo()
            self.assertEqual(picture(run), kept)
        self.assertRaises(NothingToUndo, run.undo)
        self.assertEqual(run.step(2), None)

    def test_many_changes(self):
        schedule = reference.whole_schedule(40, reference.by_chance(9))[:500]
        run = Run(40)
        for process in schedule[:250]:
            run.step(process)
        for many in range(249, -1, -1):
            run.undo()
            self.assertEqual(run.steps_done, schedule[:many])
        self.assertRaises(NothingToUndo, run.undo)
        self.assertEqual(picture(run), picture(Run(40)))


class Read(unittest.TestCase):
    def test_read(self):
        for text, count, schedule in [("1 -", 1, []), ("40 -", 40, []), ("2 1,0", 2, [1, 0]), ("1 0,0,0,0", 1, [0] * 4),
                                      ("40 39", 40, [39]), ("2 0,0,1,0,0,1", 2, [0, 0, 1, 0, 0, 1])]:
            run = Run.read(text)
            self.assertIs(type(run), Run)
            self.assertEqual(picture(run), expected(count, schedule))
            self.assertRaises(NothingToUndo, run.undo)

    def test_goes_on(self):
        run = Run.read("2 0,0,1")
        self.assertEqual(run.play(0, 0), [None, ("down", 1)])
        run.undo()
        self.assertEqual(run, Run.read("2 0,0,1"))
        self.assertRaises(NothingToUndo, run.undo)

    def test_wrong_texts(self):
        for text in [None, True, 0, b"1 -", ["1 -"], ("1 -",), "", "1", "1 ", "41 -", "0 -", "1 0,0,0,0,0", "2 2", "1  -"]:
            with self.subTest(text=text):
                self.assertRaises(InvalidText, Run.read, text)

    def test_off_an_object_another_run_is_made(self):
        run = Run(3)
        other = run.read("2 0")
        self.assertEqual([run.process_count, len(run), other.process_count, len(other)], [3, 0, 2, 1])


class Equality(unittest.TestCase):
    def test_equal_runs(self):
        stepped, played, read = Run(3), Run(3), Run.read("3 0,1,1")
        for process in [0, 1, 1]:
            stepped.step(process)
        played.play(0, 1)
        played.play(1)
        for one, other in itertools.product([stepped, played, read], repeat=2):
            self.assertTrue(one == other)
            self.assertFalse(one != other)

    def test_exactly_if_counts_and_schedules_are_equal(self):
        # The last two have the same places and names after different schedules.
        kinds = [(1, []), (2, []), (3, []), (40, []), (2, [0]), (2, [1]), (3, [0]), (2, [0, 0]), (2, [0, 1]), (2, [1, 0]),
                 (2, [0, 0, 1]), (2, [0, 1, 0])]
        for (at, one), (to, other) in itertools.product(enumerate(kinds), repeat=2):
            first, second = Run(one[0]), Run(other[0])
            first.play(*one[1])
            second.play(*other[1])
            self.assertEqual([first == second, first != second], [at == to, at != to], (one, other))

    def test_after_undo(self):
        run = Run(2)
        run.finish(1)
        self.assertNotEqual(run, Run(2))
        run.undo()
        self.assertEqual(run, Run(2))

    def test_other_values(self):
        class Alike:
            process_count = 2
            steps_done = []
            names_now = [None, None]

        for value in [None, True, False, 0, 2, "2 -", b"", [], [2, []], (2, []), {}, {2}, Run, Alike(), object()]:
            for run in [Run(2), Run(1)]:
                self.assertEqual([run == value, value == run, run != value], [False, False, True])

    def test_length(self):
        run = Run(2)
        for many in range(4):
            self.assertEqual(len(run), many)
            run.step(1)
        run.finish(0)
        self.assertEqual(len(run), 4 + 6)


class EveryRun(unittest.TestCase):
    """Whole runs in many orders, held against the reference, and points [1], [7], [9] and [10]."""

    @classmethod
    def setUpClass(cls):
        cls.whole = []
        for count in [1, 2, 3, 4, 5, 8, 13, 39, 40]:
            for order, choose in reference.orders(range(12 if count < 9 else 2)):
                cls.whole.append((count, order, reference.whole_schedule(count, choose)))

    def test_all_that_a_run_tells(self):
        for count, order, schedule in self.whole:
            with self.subTest(count=count, order=order):
                told = expected(count, schedule)
                self.assertEqual(names_after(count, schedule), told[2])
                self.assertEqual(picture(Run.read(show_run(count, schedule))), told)

    def test_after_every_step(self):
        for count, order, schedule in self.whole:
            if count < 6:
                run = Run(count)
                for many, process in enumerate(schedule, start=1):
                    told = run.step(process)
                    names, places, events = reference.grid_play(count, schedule[:many])
                    self.assertEqual(picture(run), expected(count, schedule[:many]), (order, many))
                    self.assertEqual(run.names_now, names_after(count, schedule[:many]))
                    last = [(result, name) for _, result, name in events][-1:]
                    grown = many == 1 or len(events) > len(reference.grid_play(count, schedule[:many - 1])[2])
                    self.assertEqual(told, last[0] if last and grown else None)

    def test_names_are_different_and_below_the_bound(self):
        for count, order, schedule in self.whole:
            names = names_after(count, schedule)
            self.assertEqual(len(set(names)), count, order)
            self.assertTrue(all(0 <= name < count * (count + 1) // 2 for name in names), order)

    def test_every_order_of_two_and_three_processes_gives_different_names(self):
        for count, lists in [(1, 1), (2, 3), (3, 12)]:
            ends = reference.ends_of_the_grid(count)
            self.assertTrue(all(len(set(names)) == count for names in ends))
            # Any process can get any of the names.
            self.assertEqual(ends, {order for names in ends for order in itertools.permutations(names)})
            self.assertEqual(len({tuple(sorted(names)) for names in ends}), lists)

    def test_each_cell_runs_a_schedule_of_its_splitter(self):
        for count, order, schedule in self.whole:
            run = Run(count)
            cells = {}
            for process in schedule:
                cell = run.places_now[process][0]
                told = run.step(process)
                cells.setdefault(cell, []).append((process, told))
            for cell, rows in cells.items():
                inside = sorted({process for process, _ in rows})
                results = {process: told[0] for process, told in rows if told is not None}
                numbered = [inside.index(process) for process, _ in rows]
                self.assertEqual(reference.play(len(inside), numbered), [results[process] for process in inside])

    def entered(self, count, schedule):
        """How many processes entered each cell, by what the program tells."""
        told = {0: count}
        for _, result, name in Run.read(show_run(count, schedule)).events():
            if result != "stop":
                told[name] = told.get(name, 0) + 1
        return told

    def test_neighbouring_cells_are_entered_by_few(self):
        for count, order, schedule in self.whole:
            told = self.entered(count, schedule)
            for t in range(count + 2):
                row = [told.get(t * (t + 1) // 2 + right, 0) for right in range(t + 1)]
                for first in range(t + 1):
                    for j in range(1, t + 2 - first):
                        self.assertLessEqual(sum(row[first:first + j]), max(0, count - t + j - 1), (count, order, t))

    def test_rows_and_columns_that_were_entered_contain_a_name(self):
        cells = {reference.label(cell): cell for cell in reference.cells_up_to(41)}
        for count, order, schedule in self.whole:
            entered = [cells[name] for name in self.entered(count, schedule)]
            named = [cells[name] for name in names_after(count, schedule)]
            for part in [0, 1]:
                self.assertEqual({cell[part] for cell in entered}, {cell[part] for cell in named}, (count, order))


class NewListsAndUnchangedArguments(unittest.TestCase):
    def test_schedule_is_unchanged(self):
        for schedule in [[], [0, 1, 0, 0], [0] * 5, [0, True], [0, [1, [2]]], [2], (0,)]:
            kept = copy.deepcopy(schedule)
            try:
                names_after(2, schedule)
            except InvalidSchedule:
                pass
            self.assertEqual(repr(schedule), repr(kept))

    def test_wrong_process_is_unchanged(self):
        value = [0, [1]]
        for call in [Run(2).step, Run(2).play, Run(2).finish, Run]:
            self.assertRaises(ValueError, call, value)
            self.assertEqual(value, [0, [1]])

    def test_names_after_returns_a_new_list(self):
        schedule = [0] * 4
        told = names_after(2, schedule)
        told[0] = "changed"
        schedule[0] = 1
        self.assertEqual(names_after(2, [0] * 4), [0, None])

    def test_changing_what_a_run_returned_has_no_effect(self):
        run = Run(2)
        told = run.play(0, 0, 0, 0, 1)
        kept = picture(run)
        for value in [told, run.steps_done, run.names_now, run.places_now, run.play()]:
            value.append("changed")
            value[0] = "changed"
            self.assertEqual(picture(run), kept)
        self.assertEqual(run.finish(1), 2)
        run.undo()
        self.assertEqual(picture(run), kept)
        for name in ["steps_done", "names_now", "places_now"]:
            self.assertIsNot(getattr(run, name), getattr(run, name))
            self.assertIs(type(getattr(run, name)), list)

    def test_kept_lists_do_not_change_with_the_run(self):
        run = Run(2)
        lists = [run.steps_done, run.names_now, run.places_now]
        run.finish(0)
        self.assertEqual(lists, [[], [None, None], [(0, 0), (0, 0)]])

    def test_two_runs_share_nothing(self):
        one, other = Run(2), Run(2)
        one.finish(0)
        self.assertEqual(picture(other), expected(2, []))
        self.assertRaises(NothingToUndo, other.undo)
        self.assertEqual(other.finish(1), 0)

    def test_events_is_a_generator_and_begins_anew(self):
        run = Run(1)
        run.finish(0)
        events = run.events()
        self.assertIs(iter(events), events)
        self.assertEqual(next(events), (0, "stop", 0))
        self.assertEqual(list(events), [])
        self.assertEqual(list(run.events()), [(0, "stop", 0)])
        self.assertEqual(list(Run(1).events()), [])

    def test_equal_arguments_give_equal_results(self):
        schedule = reference.whole_schedule(6, reference.by_chance(4))
        self.assertEqual(names_after(6, schedule), names_after(6, list(schedule)))


if __name__ == "__main__":
    unittest.main()
