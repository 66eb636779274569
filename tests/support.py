"""What several test files need."""

import signal
import unittest

from windowkin.graphs import Graph

PATIENCE = 60


def golden():
    return Graph(2, [(0, 0), (0, 1), (1, 0)])


def ring(states, lanes):
    """A ring of states with so many edges from each state to the next one."""
    return Graph(states, [(state, (state + 1) % states) for state in range(states) for lane in range(lanes)])


def sample_graphs():
    """Small graphs of several shapes: with loops, rings, doubled edges, states that nothing leads to."""
    return [
        golden(),
        Graph.full(1),
        Graph.full(3),
        ring(3, 1),
        ring(2, 2),
        Graph(2, [(0, 1), (1, 1)]),
        Graph(2, [(1, 0), (0, 0), (1, 1), (1, 0)]),
        Graph(3, [(2, 0), (0, 1), (1, 2), (1, 0), (0, 0)]),
        Graph(4, [(0, 1), (1, 0), (2, 3), (3, 3), (3, 2)]),
    ]


class KinCase(unittest.TestCase):
    """A test case that ends a test that hangs, and that looks at the fields of errors."""

    def setUp(self):
        previous = signal.signal(signal.SIGALRM, self.give_up)
        signal.alarm(PATIENCE)
        self.addCleanup(signal.signal, signal.SIGALRM, previous)
        self.addCleanup(signal.alarm, 0)

    def give_up(self, number, frame):
        raise AssertionError(f"no answer after {PATIENCE} seconds")

    def assert_raises(self, error, fields, call, *args, **named):
        """Checks the very class of the error that a call raises, its fields and its word."""
        with self.assertRaises(error) as caught:
            call(*args, **named)
        self.assertIs(type(caught.exception), error)
        self.assertEqual(caught.exception.word, error.__name__.lower())
        for field, value in fields.items():
            self.assertEqual(getattr(caught.exception, field), value)
