"""What several test files need."""

import signal
import unittest
from itertools import combinations, permutations, product
from random import Random

from windowkin.codes import Code
from windowkin.errors import InvalidCode, InvalidStep, LimitExceeded
from windowkin.graphs import Graph
from windowkin.steps import Merge, Renaming, Split

PATIENCE = 60


def golden():
    return Graph(2, [(0, 0), (0, 1), (1, 0)])


def ring(states, lanes):
    """A ring of states with so many edges from each state to the next one."""
    return Graph(states, [(state, (state + 1) % states) for state in range(states) for lane in range(lanes)])


def sample_graphs():
    """Small graphs of several shapes: with loops, rings, doubled edges, states that nothing leads to."""
    return [
        golden(),
        Graph.full(1),
        Graph.full(3),
        ring(3, 1),
        ring(2, 2),
        Graph(2, [(0, 1), (1, 1)]),
        Graph(2, [(1, 0), (0, 0), (1, 1), (1, 0)]),
        Graph(3, [(2, 0), (0, 1), (1, 2), (1, 0), (0, 0)]),
        Graph(4, [(0, 1), (1, 0), (2, 3), (3, 3), (3, 2)]),
    ]


def double():
    return Graph.full(2)


def sums():
    """Each image is the sum of two edges, without carry."""
    return Code(double(), double(), 2, [0, 1, 1, 0])


def spread(width):
    """Each image is the sum of the first and the last edge of a window, without carry."""
    return Code(double(), double(), width, [path[0] ^ path[-1] for path in product(range(2), repeat=width)])


def from_counts(counts):
    """A graph with so many edges from each state to each state."""
    return Graph(len(counts), [(source, target) for source, line in enumerate(counts)
                               for target, count in enumerate(line) for edge in range(count)])


def listed_paths(graph, length):
    """All paths of a length in ascending order, found edge by edge."""
    edges = graph.edges()
    found = [(edge,) for edge in range(len(edges))]
    for more in range(length - 1):
        found = [path + (edge,) for path in found for edge in range(len(edges)) if edges[path[-1]][1] == edges[edge][0]]
    return found


def rows_of(graph, head_length, cycle_length):
    """All pairs of a head and a cycle of at most these lengths that are rows of the graph."""
    edges = graph.edges()
    heads = [()] + [head for size in range(1, head_length + 1) for head in listed_paths(graph, size)]
    cycles = [cycle for size in range(1, cycle_length + 1) for cycle in listed_paths(graph, size)
              if edges[cycle[-1]][1] == edges[cycle[0]][0]]
    return [(head, cycle) for head in heads for cycle in cycles
            if not head or edges[head[-1]][1] == edges[cycle[0]][0]]


def written(row, length):
    """The first edges of a row."""
    head, cycle = row
    return (head + cycle * length)[:length]


def all_codes(source, target, width):
    """All codes of a width, found by trying every list of images."""
    found = []
    for images in product(range(len(target)), repeat=len(listed_paths(source, width))):
        try:
            found.append(Code(source, target, width, images))
        except InvalidCode:
            pass
    return found


def small_codes():
    """Codes of several widths between small graphs, one to one, onto, both or neither."""
    fork = Graph(3, [(0, 1), (0, 2), (1, 1), (2, 2), (2, 1)])
    inlet = Graph(2, [(0, 0), (1, 0), (1, 1)])
    pairs = [(golden(), golden(), 1), (golden(), golden(), 2), (double(), double(), 1), (double(), double(), 2),
             (double(), double(), 3), (golden(), double(), 2), (fork, inlet, 1), (inlet, fork, 2), (fork, golden(), 1),
             (inlet, inlet, 2), (ring(3, 1), ring(3, 1), 3), (Graph.full(3), double(), 1), (ring(2, 2), double(), 1),
             (inlet, Graph.full(1), 4), (ring(2, 1), ring(2, 2), 2)]
    return [code for source, target, width in pairs for code in all_codes(source, target, width)]


def ladder(levels, loops):
    """A code of width 1 that is one to one and onto and has the width back levels + 1.

    The target has a loop 0 at the state 0, then the edges 1 and 2 to the state 1, and the other loops there. In the
    source the state 0 is split so often that a row tells in advance whether the edge 1 comes.
    """
    end = levels + 1
    target = Graph(2, [(0, 0), (0, 1), (0, 1)] + [(1, 1)] * loops)
    edges = [(0, 0), (1 if levels else 0, end), (0, end)] + [(end, end)] * loops
    images = list(range(len(edges)))
    for state in range(1, levels + 1):
        edges.append((state + 1 if state < levels else 0, state))
        images.append(0)
    return Code(Graph(levels + 2, edges), target, 1, images)


def mixed():
    """A graph whose states 0 and 1 can be merged, with edges to both in no particular order."""
    return Graph(2, [(0, 1), (1, 0), (1, 1), (0, 0)])


def wide():
    """A graph whose states 1 and 3 can be merged; two edges from the state 0 lead to each of them, crosswise."""
    return Graph(5, [(0, 3), (4, 4), (0, 1), (1, 0), (2, 4), (0, 1), (3, 2), (0, 3), (4, 3), (3, 0), (4, 1)])


def step_graphs():
    return sample_graphs() + [
        mixed(), wide(),
        Graph(3, [(0, 1), (1, 0), (2, 2), (2, 0), (0, 2), (1, 2), (1, 1), (0, 0), (2, 1)]),
        Graph(3, [(1, 0), (0, 0), (2, 0), (1, 0), (2, 0)]),
        Graph(4, [(0, 1), (0, 2), (1, 3), (2, 3), (3, 0), (3, 0), (2, 0)]),
    ]


def splits(graph):
    """All splits that a graph allows."""
    return [Split(state, part) for state in range(graph.states) for size in range(1, len(graph.leaving(state)))
            for part in combinations(graph.leaving(state), size)]


def merges(graph):
    """All merges that a graph allows."""
    counts = graph.counts()
    return [Merge(one, other) for one, other in combinations(range(graph.states), 2)
            if [line[one] for line in counts] == [line[other] for line in counts]]


def renamings(graph):
    """Some renamings of a graph."""
    orders = list(permutations(range(graph.states)))
    size = len(graph)
    turns = [tuple((edge + turn) % size for edge in range(size)) for turn in (0, 1)] + [tuple(reversed(range(size)))]
    return [Renaming(states, edges) for states in (orders[0], orders[-1], orders[len(orders) // 3]) for edges in turns]


def fits(graph, step):
    """Whether a graph allows a step, and the new graph is not too large."""
    try:
        step.check(graph)
    except (InvalidStep, LimitExceeded):
        return False
    return True


def some_renaming(graph, dice):
    states, edges = list(range(graph.states)), list(range(len(graph)))
    dice.shuffle(states)
    dice.shuffle(edges)
    return Renaming(tuple(states), tuple(edges))


def some_chain(graph, length, seed):
    """A chain of splits, merges and renamings in some order, and its graphs from the first to the last."""
    dice = Random(seed)
    chain, graphs = [], [graph]
    for place in range(length):
        now = graphs[-1]
        kinds = [splits(now), merges(now), [some_renaming(now, dice)]]
        choices = [[step for step in steps if fits(now, step)] for steps in kinds]
        step = dice.choice(dice.choice([steps for steps in choices if steps]))
        chain.append(step)
        graphs.append(step.result(now))
    return chain, graphs


def grown(graph, count, seed):
    """A graph to which at most so many splits and a renaming lead."""
    dice = Random(seed)
    for time in range(count):
        allowed = [step for step in splits(graph) if fits(graph, step)]
        if allowed:
            graph = dice.choice(allowed).result(graph)
    return some_renaming(graph, dice).result(graph)


class KinCase(unittest.TestCase):
    """A test case that ends a test that hangs, and that looks at the fields of errors."""

    def setUp(self):
        previous = signal.signal(signal.SIGALRM, self.give_up)
        signal.alarm(PATIENCE)
        self.addCleanup(signal.signal, signal.SIGALRM, previous)
        self.addCleanup(signal.alarm, 0)

    def give_up(self, number, frame):
        raise AssertionError(f"no answer after {PATIENCE} seconds")

    def assert_raises(self, error, fields, call, *args, **named):
        """Checks the very class of the error that a call raises, its fields and its word."""
        with self.assertRaises(error) as caught:
            call(*args, **named)
        self.assertIs(type(caught.exception), error)
        self.assertEqual(caught.exception.word, error.__name__.lower())
        for field, value in fields.items():
            self.assertEqual(getattr(caught.exception, field), value)
