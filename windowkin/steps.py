"""Steps: splits, merges and renamings, which make a new graph and lead rows there and back."""

from windowkin.codes import Code
from windowkin.errors import InvalidStep, LimitExceeded
from windowkin.graphs import Graph
from windowkin.paths import paths


def numbers_text(numbers):
    """Numbers with commas between."""
    return ",".join([str(number) for number in numbers])


def is_permutation(numbers, size):
    """Whether each number below a size occurs once, and nothing else does."""
    return sorted(numbers) == list(range(size))


def turned_back(permutation):
    """The permutation that undoes a permutation."""
    places = {number: place for place, number in enumerate(permutation)}
    return tuple([places[number] for number in range(len(permutation))])


class Step:
    """The common base of the classes of steps, which never change."""


class Split(Step):
    """A state is split: a new state takes over a part of the edges that leave it."""

    def __init__(self, state, part):
        self.state = state
        self.part = tuple(part)

    def __eq__(self, other):
        return isinstance(other, Split) and self.state == other.state and self.part == other.part

    def is_allowed(self, graph):
        """Whether the part consists of some, but not all edges of the state, in ascending order."""
        if not 0 <= self.state < graph.states:
            return False
        leaving = graph.leaving(self.state)
        chosen = [edge for edge in leaving if edge in self.part]
        return list(self.part) == chosen and 0 < len(chosen) < len(leaving)

    def check(self, graph):
        """Raises InvalidStep if the graph does not allow the step, LimitExceeded if the new one would be too large."""
        if not self.is_allowed(graph):
            raise InvalidStep()
        if graph.states + 1 > Graph.MAX_STATES:
            raise LimitExceeded(Graph.MAX_STATES)
        if len(graph) + len(graph.entering(self.state)) > Graph.MAX_EDGES:
            raise LimitExceeded(Graph.MAX_EDGES)

    def result(self, graph):
        """The new graph."""
        self.check(graph)
        fresh = graph.states
        edges = [(fresh if number in self.part else source, target)
                 for number, (source, target) in enumerate(graph.edges())]
        copies = [(edges[number][0], fresh) for number in graph.entering(self.state)]
        return Graph(fresh + 1, edges + copies)

    def forward(self, graph):
        """The code from the graph to the new one."""
        large = self.result(graph)
        copies = {edge: len(graph) + place for place, edge in enumerate(graph.entering(self.state))}
        images = [copies[edge] if after in self.part else edge for edge, after in paths(graph, 2)]
        return Code(graph, large, 2, images)

    def back(self, graph):
        """The code from the new graph to the graph."""
        large = self.result(graph)
        return Code(large, graph, 1, list(range(len(graph))) + graph.entering(self.state))

    def undone(self, graph):
        """The list of the step from the new graph back to the graph."""
        self.check(graph)
        return [Merge(self.state, graph.states)]

    def text(self):
        """The text of the step."""
        return f"split {self.state} {numbers_text(self.part)}"


class Merge(Step):
    """Two states that are the targets of equally many edges from each state become one."""

    def __init__(self, one, other):
        self.low = one
        self.high = other

    def __eq__(self, other):
        return isinstance(other, Merge) and self.low == other.low and self.high == other.high

    def check(self, graph):
        """Raises InvalidStep if the graph does not allow the step; the new one is never too large."""
        if not 0 <= self.low < self.high < graph.states:
            raise InvalidStep()
        if any([line[self.low] != line[self.high] for line in graph.counts()]):
            raise InvalidStep()

    def kept_edges(self, graph):
        """The ascending list of the edges that are not removed: the old numbers of the new edges."""
        return [number for number, edge in enumerate(graph.edges()) if edge[1] != self.high]

    def partners(self, graph):
        """A dict from each edge to the lower state to the edge to the higher one with which it is paired."""
        found = {}
        for state in range(graph.states):
            leaving = graph.leaving(state)
            lower = [edge for edge in leaving if graph.edge(edge)[1] == self.low]
            higher = [edge for edge in leaving if graph.edge(edge)[1] == self.high]
            for edge, partner in zip(lower, higher):
                found[edge] = partner
        return found

    def new_state(self, state):
        """The new number of a state."""
        if state == self.high:
            return self.low
        return state - 1 if state > self.high else state

    def result(self, graph):
        """The new graph."""
        self.check(graph)
        ends = [graph.edge(number) for number in self.kept_edges(graph)]
        return Graph(graph.states - 1, [(self.new_state(source), self.new_state(target)) for source, target in ends])

    def forward(self, graph):
        """The code from the graph to the new one."""
        small = self.result(graph)
        images = {number: place for place, number in enumerate(self.kept_edges(graph))}
        for edge, partner in self.partners(graph).items():
            images[partner] = images[edge]
        return Code(graph, small, 1, [images[edge] for edge in range(len(graph))])

    def back(self, graph):
        """The code from the new graph to the graph."""
        small = self.result(graph)
        kept = self.kept_edges(graph)
        partners = self.partners(graph)
        images = []
        for edge, after in paths(small, 2):
            old = kept[edge]
            moved = old in partners and graph.edge(kept[after])[0] == self.high
            images.append(partners[old] if moved else old)
        return Code(small, graph, 2, images)

    def undone(self, graph):
        """The list of the steps from the new graph back to the graph."""
        self.check(graph)
        kept = self.kept_edges(graph)
        partners = self.partners(graph)
        part = [place for place, number in enumerate(kept) if graph.edge(number)[0] == self.high]
        split = Split(self.low, tuple(part))
        # the split appends its new state and its copies, so the old numbers are these
        states = [state for state in range(graph.states) if state != self.high] + [self.high]
        edges = kept + [partners[number] for number in kept if number in partners]
        if states == list(range(graph.states)) and edges == list(range(len(graph))):
            return [split]
        return [split, Renaming(tuple(states), tuple(edges))]

    def text(self):
        """The text of the step."""
        return f"merge {self.low} {self.high}"


class Renaming(Step):
    """States and edges get new numbers."""

    def __init__(self, states, edges):
        self.state_numbers = tuple(states)
        self.edge_numbers = tuple(edges)

    def __eq__(self, other):
        return (isinstance(other, Renaming) and self.state_numbers == other.state_numbers
                and self.edge_numbers == other.edge_numbers)

    def check(self, graph):
        """Raises InvalidStep if the graph does not allow the step; the new one is never too large."""
        if not is_permutation(self.state_numbers, graph.states) or not is_permutation(self.edge_numbers, len(graph)):
            raise InvalidStep()

    def result(self, graph):
        """The new graph."""
        self.check(graph)
        states = self.state_numbers
        ends = [graph.edge(number) for number in turned_back(self.edge_numbers)]
        return Graph(graph.states, [(states[source], states[target]) for source, target in ends])

    def forward(self, graph):
        """The code from the graph to the new one."""
        return Code(graph, self.result(graph), 1, self.edge_numbers)

    def back(self, graph):
        """The code from the new graph to the graph."""
        return Code(self.result(graph), graph, 1, turned_back(self.edge_numbers))

    def undone(self, graph):
        """The list of the step from the new graph back to the graph."""
        self.check(graph)
        return [Renaming(turned_back(self.state_numbers), turned_back(self.edge_numbers))]

    def text(self):
        """The text of the step."""
        return f"rename {numbers_text(self.state_numbers)} {numbers_text(self.edge_numbers)}"
