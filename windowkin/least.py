"""Least graphs, to which merges lead, and renamings between graphs."""

from windowkin.steps import Merge, Renaming


def merge_pairs(graph):
    """The ascending list of the pairs of states that can be merged."""
    counts = graph.counts()
    columns = list(zip(*counts))
    return [(one, other) for one in range(graph.states) for other in range(one + 1, graph.states)
            if columns[one] == columns[other]]


def least(graph):
    """The pair of a chain of merges and the least graph to which it leads."""
    chain = []
    small = graph
    pairs = merge_pairs(small)
    while pairs:
        one, other = pairs[0]
        merge = Merge(one, other)
        chain.append(merge)
        small = merge.result(small)
        pairs = merge_pairs(small)
    return (chain, small)


def state_profiles(counts):
    """For each state what a renaming keeps: its loops, and the numbers of edges from it and to it in some order."""
    columns = list(zip(*counts))
    return [(counts[state][state], sorted(counts[state]), sorted(columns[state])) for state in range(len(counts))]


def fits_before(one, other, numbers, number):
    """Whether the state behind some states that have new numbers may get a number, going by the edges between."""
    state = len(numbers)
    return all([one[state][before] == other[number][taken] and one[before][state] == other[taken][number]
                for before, taken in enumerate(numbers)])


def find_state_numbers(one, other):
    """New numbers for the states that lead a table of counts to another one of the same size, or None."""
    profiles = state_profiles(one)
    wanted = state_profiles(other)
    waiting = [()]
    while waiting:
        numbers = waiting.pop()
        state = len(numbers)
        if state == len(one):
            return numbers
        fitting = [number for number in range(len(one)) if number not in numbers
                   and wanted[number] == profiles[state] and fits_before(one, other, numbers, number)]
        # the greatest one first, because the one put last is taken first
        waiting.extend([numbers + (number,) for number in reversed(fitting)])
    return None


def edge_numbers_between(one, other, state_numbers):
    """New numbers for the edges of one graph, once new numbers for its states lead it to the other graph."""
    free = {}
    for number, edge in enumerate(other.edges()):
        free.setdefault(edge, []).append(number)
    numbers = []
    for source, target in one.edges():
        numbers.append(free[(state_numbers[source], state_numbers[target])].pop(0))
    return tuple(numbers)


def find_renaming(one, other):
    """A renaming that leads the graph one to the graph other, or None."""
    if one.states != other.states:
        return None
    numbers = find_state_numbers(one.counts(), other.counts())
    if numbers is None:
        return None
    return Renaming(numbers, edge_numbers_between(one, other, numbers))
