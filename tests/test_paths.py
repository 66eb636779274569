import inspect
from itertools import islice, product

from tests.support import KinCase, golden, ring, sample_graphs
from windowkin.errors import InvalidLength
from windowkin.graphs import Graph
from windowkin.paths import MAX_COUNTED, MAX_LENGTH, closed_paths, count_closed, count_paths, is_path, paths

HUGE = 10 ** 29


def follows(graph, edge, before):
    return graph.edges()[edge][0] == graph.edges()[before][1]


def all_paths(graph, length):
    """All paths, found by trying every tuple of edges."""
    return [path for path in product(range(len(graph)), repeat=length)
            if all(follows(graph, path[k + 1], path[k]) for k in range(length - 1))]


class IsPathTest(KinCase):
    def test_empty_tuple(self):
        for graph in sample_graphs():
            self.assertIs(is_path(graph, ()), True)

    def test_single_edges(self):
        self.assertEqual([is_path(golden(), (edge,)) for edge in range(-3, 6)],
                         [False, False, False, True, True, True, False, False, False])

    def test_all_tuples_of_three_edges(self):
        for graph in sample_graphs():
            found = [path for path in product(range(-1, len(graph) + 1), repeat=3) if is_path(graph, path)]
            self.assertEqual(found, all_paths(graph, 3))

    def test_tuples_that_are_no_paths(self):
        for path in ((0, 2), (1, 0), (1, 1), (2, 2), (0, 1, 2, 2), (0, 0, 3), (0, -1), (-3, 0), (HUGE,), (0, -HUGE),
                     (3, 0), (0, 0, 1, 0, 0)):
            self.assertIs(is_path(golden(), path), False)

    def test_path_need_not_be_closed(self):
        self.assertIs(is_path(golden(), (0, 1)), True)

    def test_long_paths(self):
        self.assertIs(is_path(golden(), (1, 2) * 125), True)
        self.assertIs(is_path(golden(), (1, 2) * 124 + (1, 1)), False)


class ListedPathsTest(KinCase):
    def test_example(self):
        self.assertEqual([list(paths(golden(), 2)), list(closed_paths(golden(), 2)), is_path(golden(), (0, 2))],
                         [[(0, 0), (0, 1), (1, 2), (2, 0), (2, 1)], [(0, 0), (1, 2), (2, 1)], False])

    def test_constants(self):
        self.assertEqual((MAX_LENGTH, MAX_COUNTED), (40, 2000))

    def test_both_are_generators(self):
        self.assertTrue(inspect.isgeneratorfunction(paths))
        self.assertTrue(inspect.isgeneratorfunction(closed_paths))

    def test_all_paths_in_ascending_order(self):
        for graph in sample_graphs():
            for length in range(1, 6):
                self.assertEqual(list(paths(graph, length)), all_paths(graph, length))

    def test_all_closed_paths_in_ascending_order(self):
        for graph in sample_graphs():
            for length in range(1, 6):
                closed = [path for path in all_paths(graph, length) if follows(graph, path[0], path[-1])]
                self.assertEqual(list(closed_paths(graph, length)), closed)

    def test_length_1(self):
        self.assertEqual(list(paths(golden(), 1)), [(0,), (1,), (2,)])
        self.assertEqual(list(closed_paths(golden(), 1)), [(0,)])

    def test_length_40(self):
        once = Graph.full(1)
        self.assertEqual(list(paths(once, 40)), [(0,) * 40])
        self.assertEqual(list(closed_paths(once, 40)), [(0,) * 40])

    def test_lengths_out_of_range(self):
        for listed in (paths, closed_paths):
            for length in (0, 41, 42, 2000, -1, -40, HUGE, -HUGE):
                self.assert_raises(InvalidLength, {"length": length}, list, listed(golden(), length))

    def test_errors_are_raised_when_iterated(self):
        for listed in (paths, closed_paths):
            waiting = listed(golden(), 0)
            self.assert_raises(InvalidLength, {"length": 0}, next, waiting)

    def test_first_paths_of_very_many(self):
        many = Graph.full(24)
        for listed in (paths, closed_paths):
            first = list(islice(listed(many, 40), 30))
            self.assertEqual(first[:24], [(0,) * 39 + (edge,) for edge in range(24)])
            self.assertEqual(first[24:], [(0,) * 38 + (1, edge) for edge in range(6)])

    def test_first_paths_are_paths_one_by_one(self):
        graph = ring(8, 3)
        before = None
        for path in islice(paths(graph, 40), 500):
            self.assertEqual(len(path), 40)
            self.assertTrue(is_path(graph, path))
            self.assertTrue(before is None or before < path)
            before = path

    def test_two_generators_do_not_disturb_each_other(self):
        one, other = paths(golden(), 2), paths(golden(), 2)
        self.assertEqual([next(one), next(one), next(other), next(one)], [(0, 0), (0, 1), (0, 0), (1, 2)])

    def test_ring_of_states(self):
        for length in range(1, 41):
            turns = [tuple((start + k) % 8 for k in range(length)) for start in range(8)]
            self.assertEqual(list(paths(ring(8, 1), length)), turns)
            self.assertEqual(list(closed_paths(ring(8, 1), length)), turns if length % 8 == 0 else [])

    def test_wide_ring_has_no_closed_paths_of_other_lengths(self):
        # there are 8 * 3 ** 39 paths, so they cannot be tried one by one
        self.assertEqual(list(closed_paths(ring(8, 3), 39)), [])
        self.assertEqual(list(islice(closed_paths(ring(8, 3), 40), 1)), [tuple(range(0, 24, 3)) * 5])

    def test_closed_paths_among_very_many_that_never_come_back(self):
        graph = Graph(3, [(0, 0), (0, 1), (1, 2), (1, 2), (2, 1), (2, 1), (2, 1)])
        closed = list(islice(closed_paths(graph, 40), 2))
        self.assertEqual(closed, [(0,) * 40, (2, 4) * 20])
        self.assertEqual(list(closed_paths(graph, 39)), [(0,) * 39])

    def test_graph_is_not_changed(self):
        graph = golden()
        list(paths(graph, 3))
        list(closed_paths(graph, 3))
        self.assertEqual(graph, golden())


class CountedPathsTest(KinCase):
    def test_example(self):
        self.assertEqual([count_paths(golden(), 3), count_closed(golden(), 5), count_closed(Graph.full(3), 4)],
                         [8, 11, 81])

    def test_counts_agree_with_the_lists(self):
        for graph in sample_graphs():
            for length in range(1, 7):
                self.assertEqual(count_paths(graph, length), len(list(paths(graph, length))))
                self.assertEqual(count_closed(graph, length), len(list(closed_paths(graph, length))))

    def test_length_1(self):
        self.assertEqual([count_paths(golden(), 1), count_closed(golden(), 1)], [3, 1])
        self.assertEqual([count_paths(ring(8, 3), 1), count_closed(ring(8, 3), 1)], [24, 0])

    def test_length_2000(self):
        self.assertEqual(count_paths(Graph.full(24), 2000), 24 ** 2000)
        self.assertEqual(count_closed(Graph.full(24), 2000), 24 ** 2000)
        self.assertEqual(count_paths(ring(8, 3), 2000), 8 * 3 ** 2000)
        self.assertEqual(count_closed(ring(8, 3), 2000), 8 * 3 ** 2000)
        self.assertEqual(count_closed(ring(8, 3), 1999), 0)
        self.assertEqual(count_paths(ring(8, 3), 1999), 8 * 3 ** 1999)

    def test_every_length_of_the_golden_graph(self):
        # the paths are the numbers of Fibonacci, the closed ones those of Lucas
        small, large, closed, more_closed = 3, 5, 1, 3
        for length in range(1, 2001):
            self.assertEqual(count_paths(golden(), length), small)
            self.assertEqual(count_closed(golden(), length), closed)
            small, large = large, small + large
            closed, more_closed = more_closed, closed + more_closed

    def test_lengths_out_of_range(self):
        for counted in (count_paths, count_closed):
            for length in (0, 2001, 2002, -1, -2000, HUGE, -HUGE):
                self.assert_raises(InvalidLength, {"length": length}, counted, golden(), length)

    def test_lengths_that_are_not_listed_are_counted(self):
        self.assertEqual(count_paths(Graph.full(2), 41), 2 ** 41)
        self.assertEqual(count_closed(Graph.full(2), 41), 2 ** 41)
