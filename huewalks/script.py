"""Scripts: lines that are run one after another on one engine."""

from huewalks.checks import are_bounds, check_text, is_between, read_numbers
from huewalks.engine import Engine
from huewalks.errors import BadNumber, BadText, BadWalk, BadWeb, TooLong, TooMany, Unhued
from huewalks.rowcase import row_limit
from huewalks.walks import LEAST_SPAN, MOST_SPAN

MOST_SCRIPT_LINES = 400


def run_script(text):
    """The texts that the lines of the script give, one for each line."""
    check_text(text)
    lines = text.split("\n")
    start = _read_start(lines[0])
    if start is None:
        raise BadText(1)
    commands = []
    for i in range(1, len(lines)):
        command = _read_line(start[0], lines[i])
        if command is None or i >= MOST_SCRIPT_LINES:
            raise BadText(i + 1)
        commands.append(command)
    engine = Engine(start[0], start[1:])
    return ["ok"] + [_answer(engine, word, numbers) for word, numbers in commands]


def _read_start(line):
    """The list of the span and the bounds that the first line tells; None if the line is not right."""
    words = line.split(" ")
    numbers = read_numbers(words[1:])
    if words[0] != "start" or numbers is None or not are_bounds(numbers[1:]):
        return None
    return numbers if is_between(LEAST_SPAN, MOST_SPAN, numbers[0]) else None


def _read_line(span, line):
    """The word and the list of the numbers of a further line; None if the line is not right."""
    words = line.split(" ")
    numbers = read_numbers(words[1:])
    if numbers is None or len(numbers) != _numbers_due(span, words[0]):
        return None
    return (words[0], numbers)


def _numbers_due(span, word):
    """How many numbers stand behind the word; None if no line begins with it."""
    if word == "paint":
        return span + 1
    if word == "clean":
        return span
    return NUMBERS_DUE.get(word)


def _answer(engine, word, numbers):
    """The text that the line gives."""
    run = RUNS[word]
    # These are all the errors that the methods of an engine raise.
    try:
        return run(engine, numbers)
    except BadNumber:
        return "refused BadNumber"
    except BadWalk:
        return "refused BadWalk"
    except BadWeb:
        return "refused BadWeb"
    except TooLong:
        return "refused TooLong"
    except TooMany:
        return "refused TooMany"
    except Unhued:
        return "refused Unhued"


def _run_place(engine, _):
    return str(engine.add_place())


def _run_arrow(engine, numbers):
    return str(len(engine.add_arrow(numbers[0], numbers[1])))


def _run_drop(engine, numbers):
    return str(len(engine.drop_arrow(numbers[0], numbers[1])))


def _run_paint(engine, numbers):
    engine.paint(numbers[:-1], numbers[-1])
    return "ok"


def _run_clean(engine, numbers):
    hue = engine.clean(numbers)
    return "none" if hue is None else str(hue)


def _run_fill(engine, _):
    return str(engine.fill())


def _run_undo(engine, _):
    return "ok" if engine.undo() else "none"


def _run_bare(engine, _):
    return str(len(engine.bare()))


def _run_road(engine, numbers):
    return str(engine.deepest(numbers[0]))


def _run_show(engine, _):
    return _joined(engine.hues())


def _run_lay(engine, _):
    return _joined(engine.laying())


def _run_limit(engine, _):
    most = row_limit(engine.span, engine.bounds)
    return "refused TooMany" if most >= 10 ** 60 else str(most)


def _joined(numbers):
    """The numbers with single spaces between them, or none."""
    return " ".join([str(number) for number in numbers]) if len(numbers) > 0 else "none"


NUMBERS_DUE = {
    "place": 0, "arrow": 2, "drop": 2, "fill": 0, "undo": 0, "bare": 0, "road": 1, "show": 0, "lay": 0, "limit": 0,
}

RUNS = {
    "place": _run_place, "arrow": _run_arrow, "drop": _run_drop, "paint": _run_paint, "clean": _run_clean,
    "fill": _run_fill, "undo": _run_undo, "bare": _run_bare, "road": _run_road, "show": _run_show, "lay": _run_lay,
    "limit": _run_limit,
}
