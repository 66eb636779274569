from unittest import mock

from tests.support import KinCase, golden, ring
from windowkin.errors import InvalidGraph, LimitExceeded, OutOfRange
from windowkin.graphs import Graph

HUGE = 10 ** 29


class GraphErrorsTest(KinCase):
    def test_example(self):
        self.assert_raises(InvalidGraph, {"place": 1}, Graph, 2, [(0, 1)])

    def test_class_values(self):
        self.assertEqual((Graph.MAX_STATES, Graph.MAX_EDGES), (8, 24))
        self.assertEqual((golden().MAX_STATES, golden().MAX_EDGES), (8, 24))

    def test_fewer_states_than_one(self):
        for states in (0, -1, -8, -HUGE):
            self.assert_raises(InvalidGraph, {"place": -1}, Graph, states, [(0, 0)])
            self.assert_raises(InvalidGraph, {"place": -1}, Graph, states, [])

    def test_one_state_and_eight_states_are_allowed(self):
        self.assertEqual(Graph(1, [(0, 0)]).states, 1)
        self.assertEqual(ring(8, 1).states, 8)

    def test_nine_states_are_too_many(self):
        nine = [(state, state) for state in range(9)]
        self.assert_raises(LimitExceeded, {"limit": 8}, Graph, 9, nine)
        self.assert_raises(LimitExceeded, {"limit": 8}, Graph, HUGE, nine)

    def test_24_edges_are_allowed_and_25_are_not(self):
        self.assertEqual(len(Graph(1, [(0, 0)] * 24)), 24)
        self.assertEqual(len(ring(8, 3)), 24)
        self.assert_raises(LimitExceeded, {"limit": 24}, Graph, 1, [(0, 0)] * 25)
        self.assert_raises(LimitExceeded, {"limit": 24}, Graph, 1, ((0, 0),) * 250)

    def test_edge_whose_source_or_target_is_no_state(self):
        for wrong in ((2, 0), (0, 2), (-1, 0), (0, -1), (HUGE, 0), (0, -HUGE)):
            self.assert_raises(InvalidGraph, {"place": 0}, Graph, 2, [wrong, (0, 0), (1, 1)])
            self.assert_raises(InvalidGraph, {"place": 2}, Graph, 2, [(0, 0), (1, 1), wrong])

    def test_first_wrong_edge_is_named(self):
        self.assert_raises(InvalidGraph, {"place": 1}, Graph, 1, [(0, 0), (0, 1), (1, 0), (5, 5)])
        self.assert_raises(InvalidGraph, {"place": 1}, Graph, 1, [(0, 0), (3, 0), (0, 3)])

    def test_state_that_is_the_source_of_no_edge(self):
        self.assert_raises(InvalidGraph, {"place": 0}, Graph, 1, [])
        self.assert_raises(InvalidGraph, {"place": 0}, Graph, 8, ())
        self.assert_raises(InvalidGraph, {"place": 3}, Graph, 2, [(0, 1), (0, 1), (0, 0)])
        self.assert_raises(InvalidGraph, {"place": 2}, Graph, 2, [(1, 0), (1, 1)])
        self.assert_raises(InvalidGraph, {"place": 24}, Graph, 2, [(0, 1)] * 24)

    def test_state_that_is_no_target_is_allowed(self):
        graph = Graph(2, [(0, 0), (1, 0)])
        self.assertEqual(graph.entering(1), [])
        self.assertEqual(graph.leaving(1), [1])

    def test_order_of_the_errors(self):
        # too few states before too many edges and wrong edges
        self.assert_raises(InvalidGraph, {"place": -1}, Graph, 0, [(7, 7)] * 25)
        # too many states before too many edges
        self.assert_raises(LimitExceeded, {"limit": 8}, Graph, 9, [(99, 0)] * 25)
        self.assert_raises(LimitExceeded, {"limit": 8}, Graph, 9, [])
        # too many edges before a wrong edge and before a state without one
        self.assert_raises(LimitExceeded, {"limit": 24}, Graph, 2, [(9, 9)] * 25)
        self.assert_raises(LimitExceeded, {"limit": 24}, Graph, 2, [(0, 0)] * 25)
        # a wrong edge before a state without one
        self.assert_raises(InvalidGraph, {"place": 1}, Graph, 3, [(0, 0), (0, 3), (1, 1)])


class GraphValuesTest(KinCase):
    def test_example(self):
        graph = golden()
        self.assertEqual([len(graph), repr(graph), graph.states, graph.edges()],
                         [3, "Graph(2 states, 3 edges)", 2, [(0, 0), (0, 1), (1, 0)]])

    def test_len_and_repr(self):
        self.assertEqual(repr(Graph.full(1)), "Graph(1 states, 1 edges)")
        self.assertEqual(repr(ring(8, 3)), "Graph(8 states, 24 edges)")
        self.assertEqual([len(Graph.full(1)), len(ring(8, 3))], [1, 24])

    def test_lists_and_tuples_may_be_passed(self):
        edges = [(0, 0), (0, 1), (1, 0)]
        self.assertEqual(Graph(2, tuple(edges)), Graph(2, edges))
        self.assertEqual(Graph(2, tuple(edges)).edges(), edges)
        self.assertIsInstance(Graph(2, tuple(edges)).edges(), list)

    def test_arguments_by_name(self):
        self.assertEqual(Graph(states=1, edges=[(0, 0)]), Graph.full(1))

    def test_argument_is_copied_and_not_changed(self):
        edges = [(0, 0), (0, 1), (1, 0)]
        graph = Graph(2, edges)
        self.assertEqual(edges, [(0, 0), (0, 1), (1, 0)])
        edges.append((1, 1))
        edges[0] = (1, 1)
        self.assertEqual(graph.edges(), [(0, 0), (0, 1), (1, 0)])
        self.assertEqual([len(graph), graph.leaving(0), graph.counts()], [3, [0, 1], [[1, 1], [1, 0]]])
        self.assertEqual(graph, golden())

    def test_returned_lists_are_new(self):
        graph = golden()
        for call in (graph.edges, graph.counts, lambda: graph.leaving(0), lambda: graph.entering(0)):
            result = call()
            kept = list(result)
            self.assertIsInstance(result, list)
            result.clear()
            self.assertEqual(call(), kept)
        graph.counts()[0][0] = 9
        self.assertEqual(graph.counts(), [[1, 1], [1, 0]])
        self.assertEqual(graph, golden())

    def test_states_cannot_be_assigned(self):
        graph = golden()
        with self.assertRaises(AttributeError):
            graph.states = 3
        self.assertEqual(graph.states, 2)

    def test_equal_graphs(self):
        self.assertTrue(golden() == golden())
        self.assertFalse(golden() != golden())

    def test_unequal_graphs(self):
        for other in (
            Graph(2, [(0, 1), (0, 0), (1, 0)]),
            Graph(2, [(0, 0), (0, 1), (1, 1)]),
            Graph(2, [(0, 0), (0, 1), (1, 0), (1, 0)]),
            Graph(3, [(0, 0), (0, 1), (1, 0), (2, 0)]),
            Graph.full(3),
        ):
            self.assertFalse(golden() == other)
            self.assertTrue(golden() != other)

    def test_graph_is_not_equal_to_any_other_value(self):
        edges = [(0, 0), (0, 1), (1, 0)]
        for other in (None, 0, 2, 3, True, "Graph(2 states, 3 edges)", edges, tuple(edges), (2, edges), {}, Graph,
                      object(), mock.ANY):
            self.assertFalse(golden() == other)
            self.assertTrue(golden() != other)


class FullTest(KinCase):
    def test_counts_from_1_to_24(self):
        for count in range(1, 25):
            graph = Graph.full(count)
            self.assertEqual(graph, Graph(1, [(0, 0)] * count))
            self.assertEqual([graph.states, len(graph)], [1, count])

    def test_counts_below_1(self):
        for count in (0, -1, -24, -HUGE):
            self.assert_raises(InvalidGraph, {"place": 0}, Graph.full, count)

    def test_counts_above_24(self):
        for count in (25, 26, 1000, HUGE):
            self.assert_raises(LimitExceeded, {"limit": 24}, Graph.full, count)


class EdgesOfGraphsTest(KinCase):
    def test_example(self):
        graph = golden()
        self.assertEqual([Graph.full(2).edges(), graph.leaving(0), graph.entering(0), graph.counts()],
                         [[(0, 0), (0, 0)], [0, 1], [0, 2], [[1, 1], [1, 0]]])

    def test_edge(self):
        graph = golden()
        self.assertEqual([graph.edge(number) for number in range(3)], [(0, 0), (0, 1), (1, 0)])
        self.assertIsInstance(graph.edge(0), tuple)

    def test_leaving_and_entering_are_ascending(self):
        graph = Graph(3, [(2, 0), (0, 2), (1, 2), (2, 2), (0, 2), (2, 0)])
        self.assertEqual([graph.leaving(state) for state in range(3)], [[1, 4], [2], [0, 3, 5]])
        self.assertEqual([graph.entering(state) for state in range(3)], [[0, 5], [], [1, 2, 3, 4]])

    def test_numbers_out_of_range(self):
        graph = golden()
        for number in (3, 4, -1, -2, -3, HUGE, -HUGE):
            self.assert_raises(OutOfRange, {"number": number}, graph.edge, number)
        for state in (2, 3, -1, -2, HUGE, -HUGE):
            self.assert_raises(OutOfRange, {"number": state}, graph.leaving, state)
            self.assert_raises(OutOfRange, {"number": state}, graph.entering, state)

    def test_counts(self):
        graph = Graph(3, [(2, 0), (0, 2), (1, 2), (2, 2), (0, 2), (2, 0)])
        self.assertEqual(graph.counts(), [[0, 0, 2], [0, 0, 1], [2, 0, 1]])
        self.assertEqual(Graph.full(24).counts(), [[24]])
        self.assertEqual(Graph(2, [(0, 1), (1, 1)]).counts(), [[0, 1], [0, 1]])

    def test_queries_do_not_change_the_graph(self):
        graph = golden()
        for asked in range(2):
            self.assertEqual([graph.edges(), graph.edge(1), graph.leaving(0), graph.entering(0), graph.counts()],
                             [[(0, 0), (0, 1), (1, 0)], (0, 1), [0, 1], [0, 2], [[1, 1], [1, 0]]])
