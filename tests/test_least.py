from itertools import permutations, product
from random import Random

from tests.support import (KinCase, double, fits, from_counts, golden, grown, mixed, renamings, ring, rows_of,
                           sample_graphs, some_renaming, splits, step_graphs, wide)
from windowkin.chains import chain_result, leads_to
from windowkin.errors import InvalidStep
from windowkin.graphs import Graph
from windowkin.least import find_renaming, least, merge_pairs
from windowkin.steps import Merge, Renaming


def all_small_graphs(states, most):
    """All graphs with so many states whose numbers of edges between two states are at most so great."""
    lines = [line for line in product(range(most + 1), repeat=states) if sum(line)]
    return [from_counts(counts) for counts in product(lines, repeat=states)]


def some_graph(states, edges, dice):
    """A graph with edges between any states, one from each state at least."""
    pairs = [(state, dice.randrange(states)) for state in range(states)]
    pairs += [(dice.randrange(states), dice.randrange(states)) for edge in range(edges - states)]
    dice.shuffle(pairs)
    return Graph(states, pairs)


def is_renamed(one, other):
    """Whether some permutation of the states leads one graph to the other, found by trying all."""
    if one.states != other.states:
        return False
    wanted = sorted(other.edges())
    return any(sorted((order[source], order[target]) for source, target in one.edges()) == wanted
               for order in permutations(range(one.states)))


def ends_of_merges(graph):
    """The least graphs to which merges lead in all orders."""
    pairs = merge_pairs(graph)
    if not pairs:
        return [graph]
    return [end for one, other in pairs for end in ends_of_merges(Merge(one, other).result(graph))]


def cube(states):
    """Edges from each state to all states behind it, with a loop at the last one, and one edge to each."""
    return Graph(states, [(one, other) for one in range(states) for other in range(states) if other > one]
                 + [(states - 1, states - 1)])


class MergePairsTest(KinCase):
    def test_example(self):
        large = Graph(2, [(0, 0), (1, 0), (0, 1), (1, 1)])
        self.assertEqual([merge_pairs(large), least(large)[1] == Graph.full(2), merge_pairs(golden()),
                          find_renaming(large, golden())], [[(0, 1)], True, [], None])

    def test_no_pair(self):
        for graph in (Graph.full(1), Graph.full(24), golden(), ring(8, 1), ring(8, 3), ring(2, 2)):
            self.assertEqual(merge_pairs(graph), [])

    def test_one_pair(self):
        self.assertEqual(merge_pairs(mixed()), [(0, 1)])
        self.assertEqual(merge_pairs(wide()), [(1, 3)])

    def test_several_pairs_in_ascending_order(self):
        star = Graph(4, [(0, 0), (1, 0), (2, 0), (3, 0)])
        self.assertEqual(merge_pairs(star), [(1, 2), (1, 3), (2, 3)])
        graph = Graph(5, [(0, 4), (0, 0), (4, 1), (4, 3), (1, 2), (2, 2), (3, 2)])
        self.assertEqual(merge_pairs(graph), [(0, 4), (1, 3)])
        full = Graph(4, list(product(range(4), repeat=2)))
        self.assertEqual(merge_pairs(full), [(0, 1), (0, 2), (0, 3), (1, 2), (1, 3), (2, 3)])

    def test_states_that_are_no_targets(self):
        self.assertEqual(merge_pairs(Graph(3, [(0, 0), (1, 0), (2, 0)])), [(1, 2)])
        self.assertEqual(merge_pairs(Graph(2, [(0, 0), (1, 0)])), [])

    def test_all_pairs_of_small_graphs(self):
        for graph in all_small_graphs(2, 2) + all_small_graphs(3, 1)[::3] + step_graphs():
            allowed = []
            for one in range(graph.states):
                for other in range(graph.states):
                    try:
                        Merge(one, other).check(graph)
                    except InvalidStep:
                        continue
                    allowed.append((one, other))
            self.assertEqual(merge_pairs(graph), allowed)


class LeastTest(KinCase):
    def test_least_graph_is_its_own(self):
        for graph in (Graph.full(1), golden(), ring(8, 3), ring(3, 1)):
            self.assertEqual(least(graph), ([], graph))

    def test_pair_of_a_list_and_a_graph(self):
        result = least(mixed())
        self.assertIsInstance(result, tuple)
        self.assertIsInstance(result[0], list)
        self.assertEqual(result, ([Merge(0, 1)], double()))

    def test_chain_merges_the_first_pair_as_long_as_there_is_one(self):
        for graph in step_graphs() + all_small_graphs(3, 1)[::5]:
            chain, small = least(graph)
            now = graph
            for step in chain:
                self.assertEqual(step, Merge(*merge_pairs(now)[0]))
                now = step.result(now)
            self.assertEqual(now, small)
            self.assertEqual(merge_pairs(small), [])
            self.assertTrue(leads_to(graph, small, chain))
            self.assertEqual(least(small), ([], small))

    def test_several_merges(self):
        star = Graph(4, [(0, 0), (1, 0), (2, 0), (3, 0)])
        self.assertEqual(least(star), ([Merge(1, 2), Merge(1, 2)], Graph(2, [(0, 0), (1, 0), (1, 0), (1, 0)])))
        # a merge makes another one possible
        graph = Graph(3, [(0, 1), (1, 0), (1, 2), (2, 1), (0, 2), (2, 0), (0, 0), (1, 1), (2, 2)])
        self.assertEqual(least(graph)[1], Graph.full(3))

    def test_8_states(self):
        eight = Graph(8, [(state, (2 * state + bit) % 8) for state in range(8) for bit in range(2)])
        chain, small = least(eight)
        self.assertEqual([len(chain), small], [7, double()])

    def test_merges_in_other_orders_end_in_graphs_that_differ_only_by_a_renaming(self):
        graphs = step_graphs() + all_small_graphs(3, 1)[::7]
        graphs += [grown(graph, 4, seed) for seed, graph in enumerate(sample_graphs() * 8)]
        several = 0
        for graph in graphs:
            small = least(graph)[1]
            ends = ends_of_merges(graph)
            several += len(ends) > 1
            for end in ends:
                self.assertIsNotNone(find_renaming(end, small))
        self.assertGreater(several, 20)

    def test_splits_and_renamings_do_not_change_the_least_graph(self):
        for graph in sample_graphs():
            small = least(graph)[1]
            for step in splits(graph) + renamings(graph):
                self.assertIsNotNone(find_renaming(least(step.result(graph))[1], small))


class FindRenamingTest(KinCase):
    def assert_found(self, one, other):
        renaming = find_renaming(one, other)
        self.assertIsInstance(renaming, Renaming)
        self.assertEqual(renaming.result(one), other)
        self.assertEqual(find_renaming(Graph(one.states, one.edges()), Graph(other.states, other.edges())), renaming)

    def test_graph_and_itself(self):
        for graph in step_graphs() + [ring(8, 3), Graph.full(24), Graph(8, [(state, state) for state in range(8)])]:
            self.assert_found(graph, graph)

    def test_renamed_graphs_of_all_sizes(self):
        dice = Random(5)
        for states in range(1, 9):
            for edges in (states, states + 3, 2 * states, 24):
                for time in range(4):
                    graph = some_graph(states, min(24, max(edges, states)), dice)
                    self.assert_found(graph, some_renaming(graph, dice).result(graph))

    def test_parallel_edges_and_loops(self):
        dice = Random(6)
        for graph in (ring(8, 3), ring(6, 4), ring(3, 8), Graph.full(24),
                      Graph(8, ring(8, 2).edges() + ring(8, 1).edges()),
                      Graph(8, ring(8, 2).edges() + [(state, state) for state in range(8)]),
                      Graph(4, [(0, 0)] * 5 + [(1, 1)] * 5 + [(2, 3), (3, 2)] * 2), cube(7)):
            for time in range(5):
                self.assert_found(graph, some_renaming(graph, dice).result(graph))

    def test_all_small_graphs_are_compared_with_all_permutations(self):
        graphs = all_small_graphs(2, 2) + all_small_graphs(3, 1)[::4]
        for place, one in enumerate(graphs):
            for other in graphs[place % 3::3]:
                if is_renamed(one, other):
                    self.assert_found(one, other)
                else:
                    self.assertIsNone(find_renaming(one, other))

    def test_other_numbers_of_states_or_edges(self):
        for one, other in ((Graph.full(2), Graph.full(3)), (golden(), Graph.full(3)), (ring(3, 1), ring(4, 1)),
                           (ring(4, 1), ring(2, 2)), (golden(), Graph(2, golden().edges() + [(1, 1)])),
                           (ring(8, 3), ring(8, 2)), (Graph.full(8), ring(8, 1))):
            self.assertIsNone(find_renaming(one, other))
            self.assertIsNone(find_renaming(other, one))

    def test_one_edge_is_changed(self):
        dice = Random(7)
        missing = 0
        for states in range(2, 7):
            for time in range(8):
                graph = some_graph(states, 2 * states, dice)
                edges = some_renaming(graph, dice).result(graph).edges()
                place = dice.randrange(len(edges))
                edges[place] = (edges[place][0], (edges[place][1] + 1) % states)
                changed = Graph(states, edges)
                if is_renamed(graph, changed):
                    self.assert_found(graph, changed)
                else:
                    missing += 1
                    self.assertIsNone(find_renaming(graph, changed))
        self.assertGreater(missing, 25)

    def test_degrees_agree_but_no_renaming_leads_there(self):
        two_rings = Graph(8, [(0, 1), (1, 2), (2, 3), (3, 0), (4, 5), (5, 6), (6, 7), (7, 4)])
        self.assertIsNone(find_renaming(ring(8, 1), two_rings))
        self.assertIsNone(find_renaming(two_rings, ring(8, 1)))
        uneven = Graph(8, [(0, 1), (1, 2), (2, 0), (3, 4), (4, 5), (5, 6), (6, 7), (7, 3)])
        self.assertIsNone(find_renaming(two_rings, uneven))
        # each state has three edges from it and three to it
        steps_of_1_2_3 = Graph(8, [(state, (state + more) % 8) for state in range(8) for more in (1, 2, 3)])
        steps_of_1_2_4 = Graph(8, [(state, (state + more) % 8) for state in range(8) for more in (1, 2, 4)])
        self.assertIsNone(find_renaming(steps_of_1_2_3, steps_of_1_2_4))
        # five times as many of such a turn are the same steps in another order
        steps_of_5_2_7 = Graph(8, [(state, (state + 5 * more) % 8) for state in range(8) for more in (1, 2, 3)])
        self.assert_found(steps_of_1_2_3, steps_of_5_2_7)

    def test_turned_around_graph(self):
        graph = Graph(3, [(0, 1), (0, 2), (1, 0), (2, 2), (2, 2)])
        around = Graph(3, [(1, 0), (2, 0), (0, 1), (2, 2), (2, 2)])
        self.assertIs(find_renaming(graph, around) is not None, is_renamed(graph, around))
        self.assertIsNone(find_renaming(Graph(2, [(0, 0), (1, 0)]), Graph(2, [(0, 0), (1, 1)])))

    def test_many_alike_states(self):
        # seven states with the same numbers of edges, told apart only by how they are joined
        lone = Graph(8, [(state, state) for state in range(8)] + [(0, 1), (1, 2), (2, 0), (3, 4), (4, 5), (5, 3)]
                     + [(6, 7), (7, 6)])
        joined = Graph(8, [(state, state) for state in range(8)] + [(0, 1), (1, 2), (2, 3), (3, 0), (4, 5), (5, 4)]
                       + [(6, 7), (7, 6)])
        self.assertIsNone(find_renaming(lone, joined))
        self.assert_found(lone, Renaming((7, 5, 3, 1, 0, 2, 4, 6), tuple(range(16))).result(lone))

    def test_renaming_leads_rows(self):
        graph = wide()
        other = Renaming((4, 2, 0, 1, 3), tuple(reversed(range(11)))).result(graph)
        forward = find_renaming(graph, other).forward(graph)
        for row in rows_of(graph, 1, 3):
            self.assertEqual(find_renaming(graph, other).back(graph).lead(forward.lead(row)),
                             Renaming(tuple(range(5)), tuple(range(11))).forward(graph).lead(row))


class GeneralRulesTest(KinCase):
    def test_arguments_by_name(self):
        self.assertEqual(merge_pairs(graph=mixed()), merge_pairs(mixed()))
        self.assertEqual(least(graph=wide()), least(wide()))
        self.assertEqual(find_renaming(one=golden(), other=golden()), find_renaming(golden(), golden()))
        self.assertEqual(find_renaming(other=golden(), one=golden()), find_renaming(golden(), golden()))

    def test_arguments_are_not_changed_and_lists_are_new(self):
        graph = wide()
        merge_pairs(graph).clear()
        least(graph)[0].clear()
        find_renaming(graph, graph)
        self.assertEqual([merge_pairs(graph), least(graph)[0], graph], [[(1, 3)], [Merge(1, 3)], wide()])
        self.assertEqual(chain_result(graph, least(graph)[0]), least(graph)[1])
        self.assertTrue(fits(graph, Merge(1, 3)))
