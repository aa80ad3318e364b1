"""The texts of name lists and of runs."""

from splitnames.checks import check_names, is_name_list
from splitnames.errors import InvalidCount, InvalidSchedule, InvalidText
from splitnames.walks import walk_after

MOST_DIGITS = 40
EMPTY_SCHEDULE = "-"


def show_names(names):
    """Return the text of a name list."""
    check_names(names)
    return " ".join([str(name) for name in names])


def read_names(text):
    """Return the name list with this text."""
    names = [read_number(word, MOST_DIGITS) for word in _words_of(text)]
    if not is_name_list(names):
        raise InvalidText("the numbers of the text are not a name list")
    return names


def show_run(count, schedule):
    """Return the text of a run."""
    # Only for its errors: the text shows the arguments as they are.
    walk_after(count, schedule)
    return f"{count} {show_schedule(schedule)}"


def read_run(text):
    """Return the tuple (count, schedule) with this text."""
    words = _words_of(text)
    if len(words) != 2:
        raise InvalidText("the text of a run is a count and the text of a schedule")
    count = read_number(words[0], MOST_DIGITS)
    schedule = _read_schedule(words[1])
    try:
        walk_after(count, schedule)
    except (InvalidCount, InvalidSchedule):
        raise InvalidText("the text shows no run") from None
    return count, schedule


def show_schedule(schedule):
    """Return the text of a schedule."""
    if schedule == []:
        return EMPTY_SCHEDULE
    return ",".join([str(process) for process in schedule])


def read_number(word, most_digits):
    """Return the integer with this text, if it has at most so many digits."""
    # int would also read signs, underscores, line ends and the digits of other scripts.
    if len(word) > most_digits or not word.isascii() or not word.isdigit():
        raise InvalidText(f"a number consists of 1 to {most_digits} digits")
    if word[0] == "0" and word != "0":
        raise InvalidText("a number has no leading zeros")
    return int(word)


def _words_of(text):
    """Return the words of any value, if it is a text."""
    if not isinstance(text, str):
        raise InvalidText("the value is not a text")
    return text.split(" ")


def _read_schedule(word):
    if word == EMPTY_SCHEDULE:
        return []
    return [read_number(part, MOST_DIGITS) for part in word.split(",")]
