"""Paths of a graph: tuples of edges, each of which follows the one before."""

from windowkin.errors import InvalidLength

MAX_LENGTH = 40
MAX_COUNTED = 2000


def first_break(graph, path):
    """The first place whose edge is no edge of the graph or does not follow the one before, or None."""
    edges = graph.edges()
    state = None
    for place, number in enumerate(path):
        if not 0 <= number < len(edges):
            return place
        source, target = edges[number]
        if state is not None and source != state:
            return place
        state = target
    return None


def is_path(graph, path):
    """Whether a tuple of integers is a path of the graph."""
    return first_break(graph, path) is None


def check_length(length, limit):
    """Raises InvalidLength if a length is not from 1 to a limit."""
    if not 1 <= length <= limit:
        raise InvalidLength(length)


def ways_to(graph, length, ends):
    """A table: at [more][state] the edges from a state after which more edges can lead to one of the ends."""
    edges = graph.edges()
    leaving = [graph.leaving(state) for state in range(graph.states)]
    hopeful = [state in ends for state in range(graph.states)]
    ways = []
    for more in range(length):
        ways.append([[number for number in numbers if hopeful[edges[number][1]]] for numbers in leaving])
        hopeful = [len(numbers) > 0 for numbers in ways[more]]
    return ways


def walks(edges, ways, first):
    """Yields in ascending order the paths along a table of ways_to that begin with an edge."""
    # the table leaves out every edge that ends nowhere, so no time is lost on paths that cannot be completed
    length = len(ways)
    waiting = [(first,)] if first in ways[length - 1][edges[first][0]] else []
    while waiting:
        path = waiting.pop()
        if len(path) == length:
            yield path
        else:
            numbers = ways[length - len(path) - 1][edges[path[-1]][1]]
            # the greatest one first, because the one put last is taken first
            waiting.extend([path + (number,) for number in reversed(numbers)])


def paths(graph, length):
    """Yields all paths of a length in ascending order."""
    check_length(length, MAX_LENGTH)
    edges = graph.edges()
    ways = ways_to(graph, length, list(range(graph.states)))
    for first in range(len(edges)):
        yield from walks(edges, ways, first)


def closed_paths(graph, length):
    """Yields the closed paths of a length in ascending order."""
    check_length(length, MAX_LENGTH)
    edges = graph.edges()
    homeward = [ways_to(graph, length, [state]) for state in range(graph.states)]
    for first, (source, target) in enumerate(edges):
        ways = homeward[source]
        yield from walks(edges, ways, first)


def product(one, other):
    """The product of two square tables of numbers."""
    columns = list(zip(*other))
    return [[sum([a * b for a, b in zip(line, column)]) for column in columns] for line in one]


def power(table, exponent):
    """A square table of numbers multiplied by itself; the exponent is at least 1."""
    result = table
    for shift in reversed(range(exponent.bit_length() - 1)):
        result = product(result, result)
        if exponent >> shift & 1:
            result = product(result, table)
    return result


def count_paths(graph, length):
    """The number of paths of a length."""
    check_length(length, MAX_COUNTED)
    return sum([sum(line) for line in power(graph.counts(), length)])


def count_closed(graph, length):
    """The number of closed paths of a length."""
    check_length(length, MAX_COUNTED)
    return sum([line[state] for state, line in enumerate(power(graph.counts(), length))])
