from random import Random

from tests.support import (KinCase, double, golden, grown, mixed, ring, rows_of, sample_graphs, some_chain,
                           some_renaming, step_graphs)
from windowkin.chains import MAX_STEPS, chain_result, lead_back, lead_through, leads_to
from windowkin.graphs import Graph
from windowkin.kin import are_kin, check_comparison, compare
from windowkin.least import find_renaming, least, merge_pairs
from windowkin.paths import count_closed
from windowkin.rows import normal_row
from windowkin.steps import Merge, Renaming, Split


def star():
    """A graph that three merges lead to its least graph, in several orders."""
    return Graph(5, [(0, 0), (1, 0), (2, 0), (3, 0), (4, 0), (4, 0)])


def families():
    """Lists of graphs; those of one list are made from one graph, and the least graphs of two lists differ."""
    starts = [golden(), double(), Graph.full(3), ring(3, 1), ring(2, 2), Graph(2, [(0, 1), (1, 1)]),
              Graph(3, [(2, 0), (0, 1), (1, 2), (1, 0), (0, 0)])]
    made = []
    for place, graph in enumerate(starts):
        chained = [some_chain(graph, 10, 100 * place + seed)[1][-1] for seed in range(2)]
        made.append([graph] + chained + [grown(graph, 4, 100 * place + seed) for seed in range(2)])
    return made


def looped_ring(states):
    return Graph(states, ring(states, 1).edges() + [(state, state) for state in range(states)])


def turns(steps):
    """A graph of eight states with an edge so many states onward from each one, for each number of steps."""
    return Graph(8, [(state, (state + step) % 8) for state in range(8) for step in steps])


class ExampleTest(KinCase):
    def test_example(self):
        large = Split(0, (1,)).result(double())
        self.assertEqual([compare(double(), large)[0], check_comparison(double(), large, compare(double(), large)),
                          are_kin(double(), golden()), compare(double(), golden())],
                         ["kin", True, False, ("apart", [], [])])


class CompareTest(KinCase):
    def assert_kin(self, one, other):
        result = compare(one, other)
        self.assertIsInstance(result, tuple)
        word, chain = result
        self.assertEqual(word, "kin")
        self.assertIsInstance(chain, list)
        self.assertLessEqual(len(chain), MAX_STEPS)
        self.assertEqual(chain_result(one, chain), other)
        self.assertIs(are_kin(one, other), True)
        self.assertIs(check_comparison(one, other, result), True)

    def assert_apart(self, one, other):
        result = compare(one, other)
        self.assertIsInstance(result, tuple)
        word, first, second = result
        self.assertEqual(word, "apart")
        for graph, chain in (one, first), (other, second):
            self.assertIsInstance(chain, list)
            self.assertTrue(all(type(step) is Merge for step in chain))
            self.assertEqual(merge_pairs(chain_result(graph, chain)), [])
        self.assertIsNone(find_renaming(chain_result(one, first), chain_result(other, second)))
        self.assertIs(are_kin(one, other), False)
        self.assertIs(check_comparison(one, other, result), True)

    def test_graphs_made_from_one_graph_are_kin(self):
        for family in families():
            for one in family:
                for other in family:
                    self.assert_kin(one, other)

    def test_graphs_whose_least_graphs_differ_are_apart(self):
        made = families()
        for place, family in enumerate(made):
            for other_place, others in enumerate(made):
                if place != other_place:
                    for one in family[::2]:
                        for other in others[1::2]:
                            self.assert_apart(one, other)

    def test_graph_and_itself(self):
        for graph in step_graphs() + [star(), ring(8, 3), Graph.full(24)]:
            self.assert_kin(graph, graph)
            self.assert_kin(graph, Graph(graph.states, graph.edges()))

    def test_renamed_graphs(self):
        dice = Random(3)
        for graph in step_graphs():
            other = some_renaming(graph, dice).result(graph)
            self.assert_kin(graph, other)
            self.assert_kin(other, graph)

    def test_as_many_closed_paths_are_not_enough(self):
        # a state that nothing leads to has its own rows, but no closed paths
        self.assert_apart(Graph(1, [(0, 0)]), Graph(2, [(0, 0), (1, 0)]))
        self.assert_apart(Graph(2, [(0, 0), (1, 0)]), Graph(2, [(0, 0), (1, 0), (1, 0)]))
        # the state tells whether the last edge was the first one of three, but no later edge does
        told = Graph(2, [(0, 0), (0, 1), (0, 1), (1, 0), (1, 1), (1, 1)])
        for length in range(1, 9):
            self.assertEqual(count_closed(told, length), count_closed(Graph.full(3), length))
        self.assert_apart(told, Graph.full(3))

    def test_rows_are_led_one_to_one(self):
        for family in families()[:4]:
            one, other = family[1], family[3]
            chain = compare(one, other)[1]
            for row in rows_of(one, 0, 2):
                self.assertEqual(lead_back(one, chain, lead_through(one, chain, row)), normal_row(row))

    def test_great_graphs(self):
        eight = looped_ring(8)
        turned = Renaming((3, 4, 5, 6, 7, 0, 1, 2), tuple(reversed(range(16)))).result(eight)
        self.assert_kin(eight, turned)
        self.assert_apart(eight, Graph(8, ring(8, 2).edges()))
        two_rings = Graph(8, [(0, 1), (1, 2), (2, 3), (3, 0), (4, 5), (5, 6), (6, 7), (7, 4)]
                          + [(state, state) for state in range(8)])
        self.assert_apart(eight, two_rings)
        dice = Random(11)
        for steps in ((1, 2, 3), (0, 1, 4), (0, 0, 1), (1, 3, 5)):
            self.assert_kin(turns(steps), some_renaming(turns(steps), dice).result(turns(steps)))
            self.assert_apart(turns(steps), turns((1, 2, 6)))

    def test_longest_chains(self):
        # seven merges, and seven splits that each need a renaming
        eight = Graph(8, [(state, (2 * state + bit) % 8) for state in range(8) for bit in range(2)])
        shuffled = some_renaming(eight, Random(2)).result(eight)
        self.assert_kin(eight, shuffled)
        self.assert_kin(shuffled, eight)
        self.assert_kin(eight, double())
        wide_eight = Graph(8, [(state, target) for state in range(8) for target in (0, 1, 2)])
        self.assert_kin(wide_eight, some_renaming(wide_eight, Random(4)).result(wide_eight))


class CheckComparisonTest(KinCase):
    def assert_refused(self, one, other, claimed):
        self.assertIs(check_comparison(one, other, claimed), False)

    def kin_pairs(self):
        return [(family[0], family[3]) for family in families()] + [(star(), grown(star(), 2, 8))]

    def test_any_chain_that_leads_there(self):
        for seed, graph in enumerate(sample_graphs()):
            chain, graphs = some_chain(graph, 8, seed)
            self.assertIs(check_comparison(graph, graphs[-1], ("kin", chain)), True)
            self.assertIs(check_comparison(graph, graphs[-1], ("kin", tuple(chain))), True)

    def test_step_removed_or_doubled(self):
        checked = 0
        for one, other in self.kin_pairs():
            chain = compare(one, other)[1]
            for place in range(len(chain)):
                for changed in (chain[:place] + chain[place + 1:], chain[:place + 1] + chain[place:]):
                    expected = leads_to(one, other, changed)
                    checked += not expected
                    self.assertIs(check_comparison(one, other, ("kin", changed)), expected)
        self.assertGreater(checked, 10)
        large = Split(0, (1,)).result(double())
        self.assert_refused(double(), large, ("kin", []))
        self.assert_refused(double(), large, ("kin", [Split(0, (1,)), Split(0, (1,))]))

    def test_step_replaced(self):
        large = Split(0, (1,)).result(double())
        self.assertIs(check_comparison(double(), large, ("kin", [Split(0, (1,))])), True)
        for step in (Split(0, (0,)), Merge(0, 1), Renaming((0,), (0, 1)), Split(0, (0, 1)), Renaming((), ())):
            self.assert_refused(double(), large, ("kin", [step]))

    def test_other_words(self):
        chain = compare(golden(), golden())[1]
        for word in ("apart", "Kin", "KIN", "kin ", "", "k"):
            self.assert_refused(golden(), golden(), (word, chain))
        self.assertIs(check_comparison(double(), golden(), ("apart", [], [])), True)
        for word in ("kin", "Apart", "", "apart ", "a"):
            self.assert_refused(double(), golden(), (word, [], []))

    def test_kin_graphs_are_not_apart(self):
        self.assert_refused(golden(), golden(), ("apart", [], []))
        self.assert_refused(golden(), Renaming((1, 0), (0, 1, 2)).result(golden()), ("apart", [], []))
        for family in families():
            one, other = family[1], family[4]
            self.assert_refused(one, other, ("apart", least(one)[0], least(other)[0]))

    def test_apart_graphs_are_not_kin(self):
        self.assert_refused(double(), golden(), ("kin", []))
        self.assert_refused(mixed(), golden(), ("kin", [Merge(0, 1)]))

    def test_chains_exchanged(self):
        first, second = least(mixed())[0], least(star())[0]
        self.assertIs(check_comparison(mixed(), star(), ("apart", first, second)), True)
        self.assert_refused(mixed(), star(), ("apart", second, first))
        self.assertIs(check_comparison(star(), mixed(), ("apart", second, first)), True)

    def test_last_graph_that_is_not_least(self):
        first, second = least(mixed())[0], least(star())[0]
        self.assertEqual([len(first), len(second)], [1, 3])
        self.assert_refused(mixed(), star(), ("apart", [], second))
        for length in range(3):
            self.assert_refused(mixed(), star(), ("apart", first, second[:length]))
        self.assert_refused(mixed(), star(), ("apart", [], []))

    def test_merges_in_another_order(self):
        self.assertIs(check_comparison(mixed(), star(),
                                       ("apart", [Merge(0, 1)], [Merge(3, 4), Merge(2, 3), Merge(1, 2)])), True)
        self.assert_refused(mixed(), star(), ("apart", [Merge(0, 1)], [Merge(4, 3), Merge(2, 3), Merge(1, 2)]))

    def test_step_that_is_no_merge(self):
        same = Renaming((0,), (0, 1))
        self.assert_refused(double(), golden(), ("apart", [same], []))
        self.assert_refused(golden(), double(), ("apart", [], [same]))
        self.assert_refused(double(), golden(), ("apart", [Split(0, (1,)), Merge(0, 1)], []))
        self.assert_refused(mixed(), golden(), ("apart", [Merge(0, 1), same], []))

    def test_merge_that_is_not_allowed(self):
        for chain in ([Merge(0, 1)], [Merge(0, 0)], [Merge(-1, 7)], [Merge(1, 0)]):
            self.assert_refused(double(), golden(), ("apart", chain, []))
            self.assert_refused(double(), golden(), ("apart", [], chain))
        self.assert_refused(mixed(), golden(), ("apart", [Merge(0, 1), Merge(0, 1)], []))

    def test_chains_that_are_too_long(self):
        same = Renaming((0,), (0, 1))
        self.assertIs(check_comparison(double(), double(), ("kin", [same] * 60)), True)
        self.assert_refused(double(), double(), ("kin", [same] * 61))
        self.assert_refused(double(), golden(), ("apart", [Merge(0, 1)] * 61, []))
        self.assert_refused(double(), golden(), ("apart", [], [Merge(0, 1)] * 61))

    def test_graphs_exchanged(self):
        one, other = double(), Split(0, (1,)).result(double())
        self.assert_refused(other, one, compare(one, other))
        self.assertIs(check_comparison(other, one, compare(other, one)), True)


class GeneralRulesTest(KinCase):
    def test_arguments_by_name(self):
        self.assertEqual(compare(one=double(), other=golden()), compare(double(), golden()))
        self.assertEqual(compare(other=mixed(), one=double()), compare(double(), mixed()))
        self.assertIs(check_comparison(one=double(), other=golden(), claimed=("apart", [], [])), True)
        self.assertIs(are_kin(one=double(), other=mixed()), True)

    def test_arguments_are_not_changed_and_lists_are_new(self):
        first, second = [Merge(0, 1)], least(star())[0]
        check_comparison(mixed(), star(), ("apart", first, second))
        self.assertEqual([first, second], [[Merge(0, 1)], least(star())[0]])
        one, other = mixed(), star()
        compare(one, other)[1].clear()
        compare(one, one)[1].append(Merge(0, 1))
        self.assertEqual(compare(one, other), ("apart", first, second))
        self.assertTrue(leads_to(one, one, compare(one, one)[1]))
        self.assertEqual([one, other], [mixed(), star()])

    def test_equal_calls_have_equal_results(self):
        for one, other in [(family[1], family[3]) for family in families()]:
            self.assertEqual(compare(one, other), compare(Graph(one.states, one.edges()), other))
