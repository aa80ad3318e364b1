import itertools
import random
import unittest

import reference
from splitnames import desk as desk_file
from splitnames.desk import Desk
from splitnames.errors import Impossible, InvalidCommand, InvalidCount, InvalidProcess, NoRun, NothingToUndo, SplitError
from splitnames.runs import Run
from splitnames.schedules import schedule_for
from splitnames.sets import stuck_diagonal
from splitnames.taken import least_count
from splitnames.texts import read_names, read_run

OTHER_VALUES = [None, True, False, 0, 1, b"undo", b"", [], ["undo"], ["step", 0], (), ("undo",), {}, {"undo"}, {"undo": 1},
                [[["run 2"]]], 10 ** 40, [None] * 2000]

NUMBER_WORDS = ["run", "step", "finish"]
PLAIN_WORDS = ["undo", "names", "places", "text"]
NAMES_WORDS = ["possible", "stuck", "least", "plan"]

NO_NUMBERS = ["", " ", "-", "+1", "-1", "-0", "00", "01", "007", "1 ", " 1", "1 2", "0 1", "1,2", "1.0", "1e1", "1_0", "0x1",
              "x", "None", "True", "1\n", "\n1", "1\t", "1\r", "\u0661", "\u00b2", "\uff11", "1000000000", "9" * 10, "1" * 40,
              "1" * 5000, "0" * 9, "0" * 10, "0123456789", "[0]", "1;", "'1'", "step 0"]
NO_NAMES = ["", " ", "-", "+1", "-1", "00", "01", "0 01", "1 0", "0 0", "2 1", "0  1", " 0", "0 ", "0,1", "0, 1", "0\n", "\n0",
            "0\t1", "x", "none", "None", "\u0661", "\u00b2", "1_0", "1.0", "0 1 2 3 4 5 6 7 8", "1" + "0" * 40, "9" * 41,
            "0 1" + "0" * 40, "1" * 5000, "[0]", "0 -", "0 x", "0;1", "3 1 2"]


def words_for(word, argument):
    return f"{word} {argument}"


def rows_that_are_no_commands():
    rows = ["", " ", "  ", "0", "-", "ok", "2 0,0", "runs 2", "Run 2", "RUN 2", "Undo", "name", "place", "texts", "events",
            "play 0 1", "read 2 -", "step", "finish", "run", "possible", "stuck", "least", "plan", "help", "next 2 0",
            "undo\n", "undo\t", "\nundo", "run\t2", "run\n2", "undo;", "undo,undo", "step0", "run2", "possible0", "None",
            "run 2 undo", "undo undo", "execute undo", "0 step", "2 run", "_step 0", "__init__", "x" * 8000, "run " * 2000]
    rows += [words_for(word, argument) for word in NUMBER_WORDS for argument in NO_NUMBERS]
    rows += [words_for(word, argument) for word in NAMES_WORDS for argument in NO_NAMES]
    for word in PLAIN_WORDS:
        rows += [word + " ", " " + word, word + " 0", word + "  ", word + " -", word.upper(), word + " " + word, word[:-1]]
    for row in ["run 2", "step 0", "finish 0", "possible 0 1", "stuck 0", "least 0", "plan 0"]:
        rows += [" " + row, row + " ", row.replace(" ", "  ", 1), row.replace(" ", "\t", 1), row + "\n", row.upper(),
                 row.replace(" ", "", 1), row.replace(" ", "\u00a0", 1)]
    return rows


def desk_after(*rows):
    desk = Desk()
    for row in rows:
        desk.execute(row)
    return desk


def picture(desk):
    """All that a desk with a run tells about it."""
    return [desk.execute(row) for row in ["text", "names", "places"]]


def told_of(desk, row):
    try:
        return desk.execute(row)
    except SplitError as error:
        return type(error)


class Interface(unittest.TestCase):
    def test_defined_in_this_file(self):
        self.assertEqual(Desk.__module__, "splitnames.desk")
        self.assertIs(desk_file.Desk, Desk)
        self.assertIn("execute", vars(Desk))
        self.assertIn("__init__", vars(Desk))

    def test_first_example(self):
        desk = Desk()
        told = [desk.execute(row) for row in ["run 2", "step 0", "finish 0", "step 1", "step 1", "names", "places",
                                              "possible 3 4 5", "stuck 3 4 5", "least 3 5"]]
        self.assertEqual(told, ["ok", "-", "0", "-", "right 2", "0 -", "0 2", "no", "1", "4"])

    def test_second_example(self):
        self.assertRaises(NoRun, Desk().execute, "step 0")


class Runs(unittest.TestCase):
    def test_new_run(self):
        for count in [1, 2, 39, 40]:
            desk = Desk()
            self.assertEqual(desk.execute(f"run {count}"), "ok")
            self.assertEqual(picture(desk), [f"{count} -", " ".join(["-"] * count), " ".join(["0"] * count)])

    def test_new_run_replaces_the_old_one(self):
        desk = desk_after("run 2", "finish 1", "step 0", "run 3")
        self.assertEqual(picture(desk), ["3 -", "- - -", "0 0 0"])
        self.assertRaises(NothingToUndo, desk.execute, "undo")
        desk = desk_after("run 3", "finish 1", "run 3")
        self.assertEqual(picture(desk), ["3 -", "- - -", "0 0 0"])

    def test_wrong_counts_keep_the_old_run(self):
        desk = desk_after("run 2", "finish 1", "step 0")
        kept = picture(desk)
        for number in ["0", "41", "100", "999999999"]:
            self.assertRaises(InvalidCount, desk.execute, f"run {number}")
            self.assertRaises(InvalidCount, Desk().execute, f"run {number}")
            self.assertEqual(picture(desk), kept)
        self.assertEqual([desk.execute("undo"), desk.execute("undo"), desk.execute("text")], ["ok", "ok", "2 -"])

    def test_steps(self):
        desk = desk_after("run 2")
        told = [desk.execute(f"step {process}") for process in [0, 0, 1, 0, 0, 1]]
        self.assertEqual(told, ["-", "-", "-", "-", "down 1", "right 2"])
        self.assertEqual(picture(desk), ["2 0,0,1,0,0,1", "- -", "1 2"])
        self.assertEqual([desk.execute(f"step {process}") for process in [0, 0, 0, 0]], ["-", "-", "-", "stop 1"])
        self.assertEqual(picture(desk), ["2 0,0,1,0,0,1,0,0,0,0", "1 -", "1 2"])
        self.assertEqual(desk.execute("finish 1"), "2")
        self.assertEqual(picture(desk), ["2 0,0,1,0,0,1,0,0,0,0,1,1,1,1", "1 2", "1 2"])

    def test_finish_and_undo(self):
        desk = desk_after("run 3")
        self.assertEqual([desk.execute(f"finish {process}") for process in [2, 0, 1]], ["0", "2", "5"])
        self.assertEqual(picture(desk), ["3 2,2,2,2,0,0,0,0,0,0,1,1,1,1,1,1,1,1", "2 5 0", "2 5 0"])
        self.assertEqual(desk.execute("undo"), "ok")
        self.assertEqual(picture(desk), ["3 2,2,2,2,0,0,0,0,0,0", "2 - 0", "2 0 0"])
        self.assertEqual([desk.execute("undo"), desk.execute("undo")], ["ok", "ok"])
        self.assertEqual(picture(desk), ["3 -", "- - -", "0 0 0"])
        self.assertRaises(NothingToUndo, desk.execute, "undo")
        self.assertEqual(picture(desk), ["3 -", "- - -", "0 0 0"])

    def test_wrong_processes_change_nothing(self):
        desk = desk_after("run 2", "finish 1", "step 0")
        kept = picture(desk)
        for number in ["1", "2", "3", "40", "999999999"]:
            for word in ["step", "finish"]:
                self.assertRaises(InvalidProcess, desk.execute, f"{word} {number}")
                self.assertEqual(picture(desk), kept)
        self.assertEqual([desk.execute("undo"), desk.execute("text")], ["ok", "2 1,1,1,1"])

    def test_forty_processes(self):
        desk = desk_after("run 40")
        for process in range(40):
            self.assertEqual(desk.execute(f"finish {process}"), str(process * (process + 3) // 2))
        self.assertEqual(desk.execute("names"), " ".join(str(t * (t + 3) // 2) for t in range(40)))
        self.assertEqual(desk.execute("places"), desk.execute("names"))
        self.assertEqual(read_run(desk.execute("text"))[0], 40)

    def test_desks_are_independent(self):
        one, other = desk_after("run 2"), desk_after("run 3", "step 2")
        one.execute("finish 0")
        self.assertEqual([one.execute("text"), other.execute("text")], ["2 0,0,0,0", "3 2"])
        self.assertRaises(NoRun, Desk().execute, "text")

    def test_long_sessions(self):
        for seed in range(12):
            self.play(random.Random(seed))

    def play(self, chance):
        """Random commands, held against the second version of the grid."""
        desk, count, parts = Desk(), None, []
        for _ in range(150):
            row = self.random_row(chance, count)
            expected, count, parts = self.answer(row, count, parts)
            self.assertEqual(told_of(desk, row), expected, (row, count, parts))

    def random_row(self, chance, count):
        word = chance.choice(["step"] * 30 + ["finish"] * 3 + ["undo"] * 6 + ["names", "places", "text", "step 0 ", "least 3 5"])
        if chance.random() < 0.02:
            return chance.choice(["run 3", "run 2", "run 5", "run 0", "run 41", "run"])
        if word in ["step", "finish"]:
            return f"{word} {chance.randrange((count or 1) + (chance.random() < 0.02))}"
        return word

    def answer(self, row, count, parts):
        words = row.split(" ")
        if row in ["run", "step 0 "]:
            return InvalidCommand, count, parts
        if row == "least 3 5":
            return "4", count, parts
        if words[0] == "run":
            return ("ok", int(words[1]), []) if 1 <= int(words[1]) <= 40 else (InvalidCount, count, parts)
        if count is None:
            return NoRun, count, parts
        schedule = sum(parts, [])
        names, places, _ = reference.grid_play(count, schedule)
        if words[0] in ["step", "finish"]:
            return self.answer_of_steps(words[0], int(words[1]), count, parts)
        if row == "undo":
            return ("ok", count, parts[:-1]) if parts else (NothingToUndo, count, parts)
        return {"names": " ".join("-" if name is None else str(name) for name in names),
                "places": " ".join(str(name) for name, _ in places),
                "text": f"{count} " + (",".join(map(str, schedule)) or "-")}[row], count, parts

    def answer_of_steps(self, word, process, count, parts):
        schedule = sum(parts, [])
        if process >= count or reference.grid_play(count, schedule)[0][process] is not None:
            return InvalidProcess, count, parts
        part = [process]
        while word == "finish" and reference.grid_play(count, schedule + part)[0][process] is None:
            part.append(process)
        names, _, events = reference.grid_play(count, schedule + part)
        if word == "finish":
            return str(names[process]), count, parts + [part]
        before = reference.grid_play(count, schedule)[2]
        answer = "-" if events == before else f"{events[-1][1]} {events[-1][2]}"
        return answer, count, parts + [part]


class NameLists(unittest.TestCase):
    def test_without_and_with_a_run(self):
        for desk in [Desk(), desk_after("run 2", "step 0")]:
            self.assertEqual([desk.execute(row) for row in ["possible 0", "stuck 0", "least 0", "plan 0"]],
                             ["yes", "none", "1", "0,0,0,0"])
            self.assertEqual([desk.execute(row) for row in ["possible 0 3 5", "stuck 0 3 5", "least 0 3 5"]], ["no", "2", "5"])
        self.assertEqual(picture(desk), ["2 0", "- -", "0 0"])
        self.assertRaises(NoRun, desk_after("plan 0", "possible 0").execute, "names")

    def test_all_lists_of_one_to_three_names(self):
        desk = Desk()
        for many in [1, 2, 3]:
            for names in map(list, itertools.combinations(range(10), many)):
                text = " ".join(map(str, names))
                diagonal = reference.first_stuck(names)
                self.assertEqual(desk.execute(f"possible {text}"), "yes" if diagonal is None else "no")
                self.assertEqual(desk.execute(f"stuck {text}"), "none" if diagonal is None else str(diagonal))
                self.assertEqual(desk.execute(f"least {text}"), str(least_count(names)))
                if diagonal is None:
                    plan = desk.execute(f"plan {text}")
                    schedule = [int(process) for process in plan.split(",")]
                    self.assertEqual(reference.grid_play(many, schedule)[0], names)
                    self.assertEqual(plan, ",".join(map(str, schedule_for(names))))
                else:
                    with self.assertRaises(Impossible) as caught:
                        desk.execute(f"plan {text}")
                    self.assertEqual(caught.exception.diagonal, diagonal)

    def test_eight_names(self):
        desk = Desk()
        row = "0 2 5 9 14 20 27 35"
        self.assertEqual([desk.execute(f"{word} {row}") for word in ["possible", "stuck", "least"]], ["yes", "none", "8"])
        self.assertEqual(read_run(f"8 {desk.execute(f'plan {row}')}")[1], schedule_for([0, 2, 5, 9, 14, 20, 27, 35]))
        row = "1 2 3 4 5 6 7 36"
        diagonal = str(reference.first_stuck([1, 2, 3, 4, 5, 6, 7, 36]))
        self.assertEqual([desk.execute(f"{word} {row}") for word in ["possible", "stuck", "least"]], ["no", diagonal, "none"])
        self.assertEqual([desk.execute("least 28"), desk.execute("least 35"), desk.execute("least 36")], ["8", "8", "none"])

    def test_names_with_more_digits_than_a_number(self):
        desk = Desk()
        for digits in [9, 10, 31, 39, 40]:
            for name in ["1" + "0" * (digits - 1), "9" * digits]:
                self.assertEqual([desk.execute(f"{word} {name}") for word in ["possible", "stuck", "least"]], ["no", "0", "none"])
                self.assertEqual(desk.execute(f"stuck 1 2 4 {name}"), "3")
                with self.assertRaises(Impossible) as caught:
                    desk.execute(f"plan 0 {name}")
                self.assertEqual(caught.exception.diagonal, stuck_diagonal([0, int(name)]))
        for word in NAMES_WORDS:
            for name in ["1" + "0" * 40, "9" * 41]:
                self.assertRaises(InvalidCommand, desk.execute, f"{word} {name}")
                self.assertRaises(InvalidCommand, desk.execute, f"{word} 0 {name}")

    def test_a_plan_can_be_played(self):
        for names in ["0", "1 2", "2 3 4", "3 5 7 8", "0 1 3 6 10 15 21 28"]:
            desk = Desk()
            plan = desk.execute(f"plan {names}")
            many = len(read_names(names))
            desk.execute(f"run {many}")
            for process in plan.split(","):
                desk.execute(f"step {process}")
            self.assertEqual(desk.execute("names"), names)
            self.assertEqual(desk.execute("places"), names)
            self.assertEqual(desk.execute("text"), f"{many} {plan}")


class WrongRows(unittest.TestCase):
    def test_rows_that_are_no_commands(self):
        empty, desk = Desk(), desk_after("run 2", "finish 1", "step 0")
        kept = picture(desk)
        for row in rows_that_are_no_commands():
            with self.subTest(row=row[:30]):
                # Without a run, too: only a command can need one.
                self.assertRaises(InvalidCommand, empty.execute, row)
                self.assertRaises(InvalidCommand, desk.execute, row)
                self.assertEqual(picture(desk), kept)
        self.assertRaises(NoRun, empty.execute, "undo")
        self.assertEqual([desk.execute("undo"), desk.execute("undo"), desk.execute("text")], ["ok", "ok", "2 -"])
        self.assertRaises(NothingToUndo, desk.execute, "undo")

    def test_other_values(self):
        empty, desk = Desk(), desk_after("run 2", "step 0")
        kept = picture(desk)
        for row in OTHER_VALUES:
            with self.subTest(row=row):
                self.assertRaises(InvalidCommand, empty.execute, row)
                self.assertRaises(InvalidCommand, desk.execute, row)
                self.assertEqual(picture(desk), kept)

    def test_numbers_with_nine_and_ten_digits(self):
        desk = desk_after("run 2")
        for number in ["100000000", "999999999"]:
            self.assertRaises(InvalidCount, desk.execute, f"run {number}")
            self.assertRaises(InvalidProcess, desk.execute, f"step {number}")
            self.assertRaises(InvalidProcess, desk.execute, f"finish {number}")
            self.assertRaises(NoRun, Desk().execute, f"step {number}")
            self.assertRaises(NoRun, Desk().execute, f"finish {number}")
        for number in ["1000000000", "9999999999"]:
            for word in NUMBER_WORDS:
                self.assertRaises(InvalidCommand, desk.execute, f"{word} {number}")
                self.assertRaises(InvalidCommand, Desk().execute, f"{word} {number}")

    def test_without_a_run(self):
        desk = Desk()
        for row in PLAIN_WORDS + ["step 0", "step 40", "finish 0", "finish 999999999"]:
            self.assertRaises(NoRun, desk.execute, row)
        for row in ["step", "step -1", "step 00", "undo 1", "finish 1 2", "names  ", "step True"]:
            self.assertRaises(InvalidCommand, desk.execute, row)
        # A run with a wrong count is none.
        self.assertRaises(InvalidCount, desk.execute, "run 0")
        self.assertRaises(NoRun, desk.execute, "names")
        # The other commands need none, nor do they make one.
        self.assertRaises(Impossible, desk.execute, "plan 1")
        self.assertRaises(NoRun, desk.execute, "undo")


class SameAsTheRun(unittest.TestCase):
    def test_texts_of_runs(self):
        for count in [1, 2, 7]:
            for _, choose in reference.orders(range(2)):
                desk, run = desk_after(f"run {count}"), Run(count)
                for process in reference.whole_schedule(count, choose):
                    told = run.step(process)
                    self.assertEqual(desk.execute(f"step {process}"), "-" if told is None else f"{told[0]} {told[1]}")
                self.assertEqual(Run.read(desk.execute("text")), run)
                self.assertEqual(desk.execute("names"), " ".join(map(str, run.names_now)))
                self.assertEqual(desk.execute("places"), " ".join(str(name) for name, _ in run.places_now))


if __name__ == "__main__":
    unittest.main()
