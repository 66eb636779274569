"""The console: lines of words that are run on a workshop."""

from windowkin.errors import Absent, ParseError, WindowError
from windowkin.kin import are_kin
from windowkin.paths import count_closed
from windowkin.texts import code_text, graph_text, is_number, parse_step, row_text

MAX_COUNT_DIGITS = 9
# the text of a step always has three words
SHAPES = (("drop", 3), ("step", 5), ("remove", 2), ("undo", 1), ("redo", 1), ("names", 1), ("show", 2), ("kin", 3),
          ("closed", 3))


def run_drop(workshop, name, count):
    """Removes the first edges of a row."""
    workshop.apply(("drop", name, count))
    return "ok"


def run_step(workshop, name, step):
    """Applies a step to a graph."""
    workshop.apply(("step", name, step))
    return "ok"


def run_remove(workshop, name):
    """Removes a thing."""
    workshop.apply(("remove", name))
    return "ok"


def run_undo(workshop):
    """Takes the last entry of the history back."""
    workshop.undo()
    return "ok"


def run_redo(workshop):
    """Brings back the entry that was undone last."""
    workshop.redo()
    return "ok"


def tell_names(workshop):
    """All names."""
    names = workshop.names()
    return " ".join(names) if names else "none"


def tell_thing(workshop, name):
    """The text of a thing."""
    kind = workshop.kind(name)
    if kind == "graph":
        return graph_text(workshop.graph(name))
    if kind == "row":
        return row_text(workshop.row(name)[1])
    return code_text(workshop.code(name)[2])


def tell_kin(workshop, name, other_name):
    """Whether two graphs are kin."""
    return "kin" if are_kin(workshop.graph(name), workshop.graph(other_name)) else "apart"


def tell_closed(workshop, name, length):
    """The number of closed paths of a graph."""
    return str(count_closed(workshop.graph(name), length))


ANSWERS = {
    "drop": run_drop,
    "step": run_step,
    "remove": run_remove,
    "undo": run_undo,
    "redo": run_redo,
    "names": tell_names,
    "show": tell_thing,
    "kin": tell_kin,
    "closed": tell_closed,
}


def parse_count(text):
    """The count or the length that a word writes."""
    if not is_number(text, MAX_COUNT_DIGITS):
        raise ParseError()
    return int(text)


def line_values(words):
    """The values that stand behind the first word of a line."""
    if words[0] in ("drop", "closed"):
        return [words[1], parse_count(words[2])]
    if words[0] == "step":
        return [words[1], parse_step(" ".join(words[2:]))]
    return words[1:]


def answer_to(workshop, line):
    """Runs a line on a workshop and returns the answer."""
    words = line.split(" ")
    if "" in words or (words[0], len(words)) not in SHAPES:
        return "invalid"
    try:
        values = line_values(words)
    except ParseError:
        return "invalid"
    answer = ANSWERS[words[0]]
    try:
        return answer(workshop, *values)
    except (WindowError, Absent) as error:
        return f"error {error.word}"


class Console:
    """Runs lines on a workshop and keeps them with their answers."""

    def __init__(self, workshop):
        self.workshop = workshop
        self.told_lines = []

    def __len__(self):
        return len(self.told_lines)

    def run(self, line):
        """Runs a line and returns its answer."""
        answer = answer_to(self.workshop, line)
        self.told_lines.append((line, answer))
        return answer

    def log(self):
        """The list of all pairs of a line and its answer."""
        return list(self.told_lines)
