"""Rows: endless paths, written as a head and a cycle that repeats without end."""

from windowkin.errors import InvalidCount, InvalidRow, OutOfRange
from windowkin.paths import first_break


def check_row(graph, row):
    """Raises InvalidRow if a pair of tuples of integers is no row of the graph."""
    head, cycle = row
    if len(cycle) == 0:
        raise InvalidRow(-1)
    # the first edge of the cycle stands once more at the end, where it must follow the last one
    place = first_break(graph, head + cycle + cycle[:1])
    if place is not None:
        raise InvalidRow(place)


def turned(cycle, count):
    """The cycle that begins so many places later."""
    start = count % len(cycle)
    return cycle[start:] + cycle[:start]


def shortest_cycle(cycle):
    """The shortest tuple that gives a cycle when it is repeated."""
    size = len(cycle)
    for part in range(1, size):
        if size % part == 0 and cycle[:part] * (size // part) == cycle:
            return cycle[:part]
    return cycle


def normal_row(row):
    """The normal form of a row."""
    head, long_cycle = row
    cycle = shortest_cycle(long_cycle)
    kept = len(head)
    # an edge at the end of the head is not needed if the cycle, continued backwards, has the same one there
    while kept > 0 and head[kept - 1] == cycle[(kept - 1 - len(head)) % len(cycle)]:
        kept -= 1
    return (head[:kept], turned(cycle, kept - len(head)))


def edge_at(row, place):
    """The edge at a place."""
    if place < 0:
        raise OutOfRange(place)
    head, cycle = row
    if place < len(head):
        return head[place]
    return cycle[(place - len(head)) % len(cycle)]


def drop(row, *, count=1):
    """The row without its first edges, in normal form."""
    if count < 0:
        raise InvalidCount(count)
    head, cycle = row
    return normal_row((head[count:], turned(cycle, max(0, count - len(head)))))


def state_at(graph, row, place):
    """The source of the edge at a place."""
    check_row(graph, row)
    return graph.edge(edge_at(row, place))[0]
