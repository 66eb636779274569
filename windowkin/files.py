"""Workshops as texts of lines, one for each thing."""

from windowkin.errors import Absent, InvalidFile, ParseError, WindowError
from windowkin.texts import code_text, graph_text, parse_code, parse_graph, parse_row, row_text
from windowkin.workshop import Workshop

# how many words of a line stand ahead of the text of its thing; the groups of lines follow each other by this number
HEAD_SIZES = {"graph": 2, "row": 3, "code": 4}


def thing_line(workshop, name):
    """The line of a thing, without its line feed."""
    kind = workshop.kind(name)
    if kind == "graph":
        return f"graph {name} {graph_text(workshop.graph(name))}"
    if kind == "row":
        graph_name, row = workshop.row(name)
        return f"row {name} {graph_name} {row_text(row)}"
    source_name, target_name, code = workshop.code(name)
    return f"code {name} {source_name} {target_name} {code_text(code)}"


def dump(workshop):
    """The text of a workshop."""
    names = workshop.names("graph") + workshop.names("row") + workshop.names("code")
    return "".join([thing_line(workshop, name) + "\n" for name in names])


def written_command(workshop, head, text):
    """The command that adds what a line writes, from the words ahead of the text of the thing and this text."""
    if head[0] == "graph":
        graph = parse_graph(text)
        return ("graph", head[1], graph.states, graph.edges())
    if head[0] == "row":
        return ("row", head[1], head[2], parse_row(text))
    code = parse_code(text, workshop.graph(head[2]), workshop.graph(head[3]))
    return ("code", head[1], head[2], head[3], code.width, code.images())


def add_line(workshop, line):
    """Adds what a line writes; returns the place that the line has in the order of lines."""
    words = line.split(" ")
    if words[0] not in HEAD_SIZES or len(words) <= HEAD_SIZES[words[0]]:
        raise ParseError()
    size = HEAD_SIZES[words[0]]
    workshop.apply(written_command(workshop, words[:size], " ".join(words[size:])))
    return (size, words[1])


def load(text):
    """The workshop of a text."""
    workshop = Workshop()
    lines = text.split("\n")
    before = (0, "")
    for number, line in enumerate(lines[:-1]):
        try:
            place = add_line(workshop, line)
        except (WindowError, Absent):
            raise InvalidFile(number)
        if place <= before:
            raise InvalidFile(number)
        before = place
    # behind the last line feed there is nothing, or a line without one
    if lines[-1] != "":
        raise InvalidFile(len(lines) - 1)
    workshop.forget_history()
    return workshop
