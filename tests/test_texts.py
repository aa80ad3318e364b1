import copy
import itertools
import re
import unittest

import reference
import wrong
from splitnames import texts
from splitnames.errors import InvalidCount, InvalidNames, InvalidSchedule, InvalidText
from splitnames.runs import names_after
from splitnames.texts import read_names, read_run, show_names, show_run

OTHER_VALUES = [None, True, False, 0, 1, 12, b"0", b"1 -", [], ["0"], [0], ("0",), (1, []), {}, {"0"}, {"0": 1}, [[["0"]]]]
# For each the value with this text.
NAMES = {
    "0": [0], "1": [1], "10": [10], "0 1": [0, 1], "0 10": [0, 10], "1 2 4": [1, 2, 4], "9 10": [9, 10],
    "0 1 2 3 4 5 6 7": [0, 1, 2, 3, 4, 5, 6, 7], "9" * 40: [10 ** 40 - 1], "1" + "0" * 39: [10 ** 39],
    "0 " + "9" * 40: [0, 10 ** 40 - 1],
}
RUNS = {
    "1 -": (1, []), "40 -": (40, []), "39 -": (39, []), "2 -": (2, []), "1 0": (1, [0]), "1 0,0,0,0": (1, [0] * 4),
    "2 0,0,1": (2, [0, 0, 1]), "2 1,0": (2, [1, 0]), "40 39,0,10": (40, [39, 0, 10]), "11 10": (11, [10]),
    "2 0,0,0,0,1,1": (2, [0, 0, 0, 0, 1, 1]), "2 0,0,0,0,1,1,1": (2, [0] * 4 + [1] * 3),
}


class Interface(unittest.TestCase):
    def test_functions_are_defined_in_this_file(self):
        for name in ["show_names", "read_names", "show_run", "read_run"]:
            self.assertEqual(getattr(texts, name).__module__, "splitnames.texts")

    def test_first_example(self):
        told = [show_names([1, 2, 4]), read_names("0"), show_run(2, [0, 0, 1]), show_run(3, []), read_run("2 1,0")]
        self.assertEqual(told, ["1 2 4", [0], "2 0,0,1", "3 -", (2, [1, 0])])

    def test_second_example(self):
        self.assertRaises(InvalidText, read_run, "1 0,0,0,0,0")


class Names(unittest.TestCase):
    def test_show_and_read(self):
        for text, names in NAMES.items():
            with self.subTest(text=text):
                self.assertEqual(show_names(names), text)
                self.assertEqual(read_names(text), names)
                self.assertIs(type(read_names(text)), list)

    def test_all_lists_of_one_to_three_names_below_10(self):
        for many in [1, 2, 3]:
            for names in itertools.combinations(range(10), many):
                text = show_names(list(names))
                self.assertEqual(text, " ".join(map(str, names)))
                self.assertEqual(read_names(text), list(names))

    def test_one_to_eight_names(self):
        for many in range(1, 9):
            names = [10 ** 39 + 7 * k for k in range(many)]
            self.assertEqual(read_names(show_names(names)), names)
        self.assertRaises(InvalidNames, show_names, list(range(9)))
        self.assertRaises(InvalidText, read_names, "0 1 2 3 4 5 6 7 8")

    def test_forty_and_forty_one_digits(self):
        self.assertEqual(read_names("9" * 40), [10 ** 40 - 1])
        for text in ["1" + "0" * 40, "9" * 41, "0 1" + "0" * 40, "1" * 5000]:
            self.assertRaises(InvalidText, read_names, text)
        # Point [11] sets no limit to a name, so this is a name list, and it is shown.
        self.assertEqual(show_names([10 ** 40]), "1" + "0" * 40)

    def test_exactly_the_texts_of_name_lists(self):
        accepted = set()
        for many in range(7):
            for signs in itertools.product("01 2,-", repeat=many):
                text = "".join(signs)
                words = text.split(" ")
                good = all(re.fullmatch("0|[1-9][0-9]*", word) for word in words)
                good = good and all(int(one) < int(other) for one, other in zip(words, words[1:]))
                if good:
                    accepted.add(text)
                    self.assertEqual(show_names(read_names(text)), text)
                else:
                    self.assertRaises(InvalidText, read_names, text)
        self.assertIn("0 1 2", accepted)
        self.assertIn("10 120", accepted)

    def test_wrong_texts(self):
        for text in ["", " ", "0 ", " 0", "0  1", "0\t1", "0\n", "\n0", "0,1", "1 0", "0 0", "00", "01", "0 01", "+1", "-1",
                     "-0", "-", "1_0", "1.0", "1e1", "0x1", "x", "None", "True", "[0]", "(0)", "\u0661", "\u00b2", "1\u00a02",
                     "\uff11", "1 \u0662", "0 " * 2000, "0\r", "0\x00", " " * 8000, "2 1,0", "1 -", "0;1"]:
            with self.subTest(text=text[:20]):
                self.assertRaises(InvalidText, read_names, text)

    def test_other_values(self):
        for value in OTHER_VALUES:
            with self.subTest(value=value):
                self.assertRaises(InvalidText, read_names, value)

    def test_wrong_name_lists(self):
        for value in wrong.NAMES:
            with self.subTest(value=value):
                self.assertRaises(InvalidNames, show_names, value)


class Runs(unittest.TestCase):
    def test_show_and_read(self):
        for text, (count, schedule) in RUNS.items():
            with self.subTest(text=text):
                self.assertEqual(show_run(count, schedule), text)
                told = read_run(text)
                self.assertEqual(told, (count, schedule))
                self.assertEqual([type(told), type(told[0]), type(told[1])], [tuple, int, list])

    def test_all_counts(self):
        for count in range(1, 41):
            self.assertEqual(show_run(count, []), f"{count} -")
            self.assertEqual(read_run(f"{count} -"), (count, []))
            schedule = list(range(count - 1, -1, -1))
            self.assertEqual(read_run(show_run(count, schedule)), (count, schedule))
            self.assertRaises(InvalidText, read_run, f"{count} {count}")
        for count in [0, 41, 100, 10 ** 39, 10 ** 40]:
            self.assertRaises(InvalidText, read_run, f"{count} -")

    def test_exactly_the_texts_of_runs(self):
        accepted = 0
        for many in range(7):
            for signs in itertools.product("01 2,-", repeat=many):
                text = "".join(signs)
                number = "(0|[1-9][0-9]*)"
                good = re.fullmatch(f"{number} (-|{number}(,{number})*)", text) is not None
                if good:
                    count, word = text.split(" ")
                    schedule = [] if word == "-" else [int(part) for part in word.split(",")]
                    good = 1 <= int(count) <= 40 and all(process < int(count) for process in schedule)
                if good:
                    accepted += 1
                    self.assertEqual(read_run(text), (int(count), schedule))
                    self.assertEqual(show_run(*read_run(text)), text)
                else:
                    self.assertRaises(InvalidText, read_run, text)
        self.assertGreater(accepted, 100)

    def test_whole_runs(self):
        for count in [1, 2, 5, 40]:
            for order, choose in reference.orders(range(2)):
                schedule = reference.whole_schedule(count, choose)
                text = show_run(count, schedule)
                self.assertEqual(text, f"{count} " + ",".join(map(str, schedule)))
                self.assertEqual(read_run(text), (count, schedule))
                # One step more of a process that has finished.
                for process in {schedule[0], schedule[-1]}:
                    self.assertRaises(InvalidSchedule, show_run, count, schedule + [process])
                    self.assertRaises(InvalidText, read_run, f"{text},{process}")

    def test_forty_processes_and_many_steps(self):
        schedule = reference.whole_schedule(40, reference.in_rounds)
        self.assertGreater(len(schedule), 3000)
        for many in [1999, 2000, 2001, len(schedule)]:
            text = show_run(40, schedule[:many])
            self.assertEqual(read_run(text), (40, schedule[:many]))
        self.assertNotIn(None, names_after(*read_run(text)))

    def test_wrong_texts(self):
        for text in ["", " ", "1", "1 ", " -", "-", "1  -", " 1 -", "1 - ", "1 -\n", "1\t-", "1\n-", "1 --", "1 0,", "1 ,0",
                     "1 0,,0", "1 0, 0", "1 0 0", "1 0;0", "1 00", "01 0", "01 -", "00 -", "0 -", "+1 -", "-1 -", "1 -0", "1 +0",
                     "2 01", "2 0,01", "1 -,0", "1 0,-", "1 1", "2 2", "2 0,2", "41 -", "41 40", "x -", "1 x", "1 0_0",
                     "1_0 -", "1 0,0,0,0,0", "2 0,0,0,0,0", "2 0,0,0,0,1,0", "\u0661 -", "2 \u0661", "\u00b2 -",
                     "1 " + "0," * 3000 + "0", "1 1" + "0" * 5000, "1" * 5000 + " -", "1 []", "1 None", "(1, [])", "1 - -"]:
            with self.subTest(text=text[:20]):
                self.assertRaises(InvalidText, read_run, text)

    def test_other_values(self):
        for value in OTHER_VALUES:
            with self.subTest(value=value):
                self.assertRaises(InvalidText, read_run, value)

    def test_wrong_counts_come_first(self):
        for count in wrong.COUNTS:
            for schedule in [[], [0], None, [True], (0,), [-1], [0] * 5]:
                with self.subTest(count=count, schedule=schedule):
                    self.assertRaises(InvalidCount, show_run, count, schedule)

    def test_wrong_schedules(self):
        for schedule in wrong.SCHEDULES:
            with self.subTest(schedule=schedule):
                self.assertRaises(InvalidSchedule, show_run, 2, schedule)


class NewListsAndUnchangedArguments(unittest.TestCase):
    def test_arguments_are_unchanged(self):
        for value in [[0, 1, 5], [], [1, 0], [0, True], [0, [1, [2]]], [0] * 5, (0, 1)]:
            for call in [show_names, read_names, read_run, lambda given: show_run(2, given),
                         lambda given: show_run(given, [])]:
                kept = copy.deepcopy(value)
                try:
                    call(value)
                except ValueError:
                    pass
                self.assertEqual(repr(value), repr(kept))

    def test_changing_a_result_has_no_effect(self):
        names = read_names("0 1")
        names.append("changed")
        self.assertEqual(read_names("0 1"), [0, 1])
        for text in ["2 -", "2 0,1"]:
            first = read_run(text)
            kept = copy.deepcopy(first)
            first[1].append("changed")
            self.assertEqual(read_run(text), kept)


if __name__ == "__main__":
    unittest.main()
