"""Texts of graphs, rows, codes and steps, and the parsers that read them."""

from windowkin.codes import Code
from windowkin.errors import InvalidCode, InvalidGraph, InvalidWidth, LimitExceeded, ParseError
from windowkin.graphs import Graph
from windowkin.rows import normal_row
from windowkin.steps import Merge, Renaming, Split

MAX_DIGITS = 4


def dotted(numbers):
    """Numbers with dots between."""
    return ".".join([str(number) for number in numbers])


def graph_text(graph):
    """The text of a graph."""
    return f"{graph.states}:" + "".join([f" {source}>{target}" for source, target in graph.edges()])


def row_text(row):
    """The text of a row, from its normal form."""
    head, cycle = normal_row(row)
    return f"{dotted(head)}({dotted(cycle)})"


def code_text(code):
    """The text of a code."""
    return f"{code.width}:" + "".join([f" {image}" for image in code.images()])


def is_number(text, digits):
    """Whether a text writes a number with at most so many digits, without a sign and without leading zeros."""
    return text.isdigit() and len(text) <= digits and (text == "0" or not text.startswith("0"))


def parse_number(text):
    """The number that a text writes."""
    if not is_number(text, MAX_DIGITS):
        raise ParseError()
    return int(text)


def parse_numbers(text, sign):
    """The tuple of the numbers that a text writes, at least one, with a sign between."""
    return tuple([parse_number(part) for part in text.split(sign)])


def parse_edge(text):
    """The pair of the source and the target of an edge."""
    ends = parse_numbers(text, ">")
    if len(ends) != 2:
        raise ParseError()
    return ends


def parse_listed(text):
    """The number ahead of a colon, and the list of the words behind it."""
    words = text.split(" ")
    if not words[0].endswith(":"):
        raise ParseError()
    return (parse_number(words[0][:-1]), words[1:])


def parse_graph(text):
    """The graph that a text writes."""
    states, words = parse_listed(text)
    edges = [parse_edge(word) for word in words]
    try:
        return Graph(states, edges)
    except (InvalidGraph, LimitExceeded):
        raise ParseError()


def parse_row(text):
    """The row in normal form that a text writes."""
    head_text, opening, cycle_text = text.partition("(")
    if not cycle_text.endswith(")"):
        raise ParseError()
    head = parse_numbers(head_text, ".") if head_text != "" else ()
    row = (head, parse_numbers(cycle_text[:-1], "."))
    # a row is written only from its normal form
    if normal_row(row) != row:
        raise ParseError()
    return row


def parse_step(text):
    """The step that a text writes, whether or not any graph allows it."""
    words = text.split(" ")
    if len(words) != 3:
        raise ParseError()
    kind, first, second = words
    if kind == "split":
        return Split(parse_number(first), parse_numbers(second, ","))
    if kind == "merge":
        return Merge(parse_number(first), parse_number(second))
    if kind == "rename":
        return Renaming(parse_numbers(first, ","), parse_numbers(second, ","))
    raise ParseError()


def parse_code(text, source, target):
    """The code from a source to a target that a text writes."""
    width, words = parse_listed(text)
    images = [parse_number(word) for word in words]
    try:
        return Code(source, target, width, images)
    except (InvalidWidth, LimitExceeded, InvalidCode):
        raise ParseError()
