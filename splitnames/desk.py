"""A desk: commands that are given as rows of words."""

from splitnames.errors import InvalidCommand, InvalidText, NoRun
from splitnames.runs import Run
from splitnames.schedules import schedule_for
from splitnames.sets import is_possible, stuck_diagonal
from splitnames.taken import least_count
from splitnames.texts import read_names, read_number, show_run, show_schedule

MOST_DIGITS = 9
DONE = "ok"
NOTHING = "-"
NO_NUMBER = "none"


def _step(run, process):
    told = run.step(process)
    if told is None:
        return NOTHING
    result, name = told
    return f"{result} {name}"


def _finish(run, process):
    return str(run.finish(process))


def _undo(run):
    run.undo()
    return DONE


def _names(run):
    return " ".join([_show_or(name, NOTHING) for name in run.names_now])


def _places(run):
    return " ".join([str(name) for name, done in run.places_now])


def _text(run):
    return show_run(run.process_count, run.steps_done)


def _possible(names):
    if is_possible(names):
        return "yes"
    return "no"


def _stuck(names):
    return _show_or(stuck_diagonal(names), NO_NUMBER)


def _least(names):
    return _show_or(least_count(names), NO_NUMBER)


def _plan(names):
    return show_schedule(schedule_for(names))


def _show_or(number, otherwise):
    """Return the text of a number, or another text if it is None."""
    if number is None:
        return otherwise
    return str(number)


# Commands with a process, and those without a further word: both need a run.
PROCESS_ACTIONS = {"step": _step, "finish": _finish}
PLAIN_ACTIONS = {"undo": _undo, "names": _names, "places": _places, "text": _text}
# Commands with a name list, which need no run.
QUESTIONS = {"possible": _possible, "stuck": _stuck, "least": _least, "plan": _plan}


class Desk:
    """A desk with at most one run."""

    def __init__(self):
        self._run = None

    def execute(self, row):
        """Run one command and return its result, a text."""
        word, argument = _read_command(row)
        if word in QUESTIONS:
            answer = QUESTIONS[word]
            return answer(argument)
        if word == "run":
            self._run = Run(argument)
            return DONE
        if self._run is None:
            raise NoRun("the command needs a run")
        if word in PROCESS_ACTIONS:
            perform = PROCESS_ACTIONS[word]
            return perform(self._run, argument)
        tell = PLAIN_ACTIONS[word]
        return tell(self._run)


def _read_command(row):
    """Return the tuple of the first word of a command and its argument: a number, a name list or None."""
    if not isinstance(row, str):
        raise InvalidCommand("a row is a text")
    if row in PLAIN_ACTIONS:
        return row, None
    word, _, rest = row.partition(" ")
    try:
        return word, _read_argument(word, rest)
    except InvalidText:
        raise InvalidCommand(f"what stands behind {word} is not as this command wants it") from None


def _read_argument(word, rest):
    if word == "run" or word in PROCESS_ACTIONS:
        return read_number(rest, MOST_DIGITS)
    if word in QUESTIONS:
        return read_names(rest)
    raise InvalidCommand("the row is not a command")
