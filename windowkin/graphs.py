"""Graphs: a few states and a list of edges between them."""

from windowkin.errors import InvalidGraph, LimitExceeded, OutOfRange


def check_edges(states, edges):
    """Raises InvalidGraph if an edge leaves the states, or if a state is the source of no edge."""
    for place, (source, target) in enumerate(edges):
        if not (0 <= source < states and 0 <= target < states):
            raise InvalidGraph(place)
    sources = [source for source, target in edges]
    for state in range(states):
        if state not in sources:
            raise InvalidGraph(len(edges))


class Graph:
    """A graph that never changes. Its edges are named by their index in the list."""

    MAX_STATES = 8
    MAX_EDGES = 24

    def __init__(self, states, edges):
        if states < 1:
            raise InvalidGraph(-1)
        if states > Graph.MAX_STATES:
            raise LimitExceeded(Graph.MAX_STATES)
        if len(edges) > Graph.MAX_EDGES:
            raise LimitExceeded(Graph.MAX_EDGES)
        check_edges(states, edges)
        self.state_count = states
        self.edge_pairs = tuple([(source, target) for source, target in edges])

    @classmethod
    def full(cls, count):
        """The graph with one state and so many edges."""
        # checked before the list is made, which a huge count would make too long
        if count < 1:
            raise InvalidGraph(0)
        if count > cls.MAX_EDGES:
            raise LimitExceeded(cls.MAX_EDGES)
        return cls(1, [(0, 0)] * count)

    def __eq__(self, other):
        return (isinstance(other, Graph) and self.state_count == other.state_count
                and self.edge_pairs == other.edge_pairs)

    def __len__(self):
        return len(self.edge_pairs)

    def __repr__(self):
        return f"Graph({self.state_count} states, {len(self.edge_pairs)} edges)"

    @property
    def states(self):
        """The number of states."""
        return self.state_count

    def edges(self):
        """The list of edges."""
        return list(self.edge_pairs)

    def edge(self, number):
        """The edge with this number."""
        if not 0 <= number < len(self.edge_pairs):
            raise OutOfRange(number)
        return self.edge_pairs[number]

    def leaving(self, state):
        """The ascending list of the edges with this source."""
        self.check_state(state)
        return [number for number, edge in enumerate(self.edge_pairs) if edge[0] == state]

    def entering(self, state):
        """The ascending list of the edges with this target."""
        self.check_state(state)
        return [number for number, edge in enumerate(self.edge_pairs) if edge[1] == state]

    def check_state(self, state):
        """Raises OutOfRange if there is no such state."""
        if not 0 <= state < self.state_count:
            raise OutOfRange(state)

    def counts(self):
        """For each state, the list of the numbers of edges from it to each state."""
        table = [[0] * self.state_count for source in range(self.state_count)]
        for source, target in self.edge_pairs:
            table[source][target] += 1
        return table
