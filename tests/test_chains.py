from tests.support import (KinCase, double, golden, merges, mixed, ring, rows_of, some_chain, splits, step_graphs,
                           wide)
from windowkin.chains import (MAX_STEPS, chain_code, chain_result, lead_back, lead_through, leads_to, undone_chain)
from windowkin.codes import Code, alike, compose
from windowkin.errors import InvalidRow, InvalidStep, LimitExceeded
from windowkin.graphs import Graph
from windowkin.judging import inverse
from windowkin.rows import normal_row
from windowkin.steps import Merge, Renaming, Split

HUGE = 10 ** 29
SAME = Renaming((0,), (0, 1))
TURN = Renaming((0,), (1, 0))


def chains(length):
    """Chains with their graphs from the first to the last one."""
    return [some_chain(graph, length, seed) for seed, graph in enumerate(step_graphs())]


def round_trips(times):
    """So many times a split, a renaming and a merge; the last graph is double again."""
    return [Split(0, (1,)), Renaming((1, 0), (3, 0, 1, 2)), Merge(0, 1)] * times


def calls(graph, chain):
    """All functions that raise the errors of a chain, with a pair that is no row."""
    return [lambda: chain_result(graph, chain), lambda: lead_through(graph, chain, ((), ())),
            lambda: lead_back(graph, chain, ((), ())), lambda: undone_chain(graph, chain),
            lambda: chain_code(graph, chain), lambda: chain_code(graph, chain, back=True)]


class ExamplesTest(KinCase):
    def test_undone_split(self):
        self.assertEqual([step.text() for step in undone_chain(double(), [Split(0, (1,))])], ["merge 0 1"])

    def test_rows_and_widths(self):
        chain = [Split(0, (1,))]
        self.assertEqual([lead_through(double(), chain, ((0,), (1,))), chain_code(double(), chain).width,
                          chain_code(double(), chain, back=True).width], [((2,), (3,)), 2, 1])


class EmptyChainTest(KinCase):
    def test_empty_chain(self):
        for graph in step_graphs():
            self.assertEqual(chain_result(graph, []), graph)
            self.assertEqual(undone_chain(graph, []), [])
            self.assertEqual(chain_code(graph, []), Code.identity(graph))
            self.assertEqual(chain_code(graph, [], back=True), Code.identity(graph))
            self.assertTrue(leads_to(graph, graph, []))
            self.assertFalse(leads_to(graph, Graph.full(7), []))

    def test_rows_of_the_empty_chain_are_in_normal_form(self):
        for lead in (lead_through, lead_back):
            self.assertEqual(lead(golden(), [], ((0, 1, 2), (0, 1, 2))), ((), (0, 1, 2)))
            self.assert_raises(InvalidRow, {"place": -1}, lead, golden(), [], ((0,), ()))
            self.assert_raises(InvalidRow, {"place": 3}, lead, golden(), [], ((1,), (2, 0)))


class StepsTest(KinCase):
    def test_chains_of_one_step(self):
        for graph in step_graphs():
            for step in splits(graph)[:3] + merges(graph):
                self.assertEqual(chain_result(graph, [step]), step.result(graph))
                self.assertEqual(undone_chain(graph, [step]), step.undone(graph))
                self.assertEqual(chain_code(graph, [step]), step.forward(graph).narrowed())
                self.assertEqual(chain_code(graph, [step], back=True), step.back(graph).narrowed())

    def test_step_codes_are_narrowed(self):
        # nothing leads to the state 1, so no image depends on a second edge
        graph = Graph(2, [(0, 0), (1, 0), (1, 0)])
        self.assertEqual([Split(1, (2,)).forward(graph).width, chain_code(graph, [Split(1, (2,))]).width], [2, 1])

    def test_each_step_is_applied_to_the_graph_of_the_step_before(self):
        for chain, graphs in chains(12):
            for length in range(len(chain) + 1):
                self.assertEqual(chain_result(graphs[0], chain[:length]), graphs[length])

    def test_rows_are_led_step_by_step(self):
        for chain, graphs in chains(9):
            for row in rows_of(graphs[0], 1, 2):
                led = row
                for graph, step in zip(graphs, chain):
                    led = step.forward(graph).lead(led)
                self.assertEqual(lead_through(graphs[0], chain, row), led)
            for row in rows_of(graphs[-1], 0, 2):
                led = row
                for graph, step in reversed(list(zip(graphs, chain))):
                    led = step.back(graph).lead(led)
                self.assertEqual(lead_back(graphs[0], chain, row), led)

    def test_leading_there_and_back(self):
        for chain, graphs in chains(9):
            for row in rows_of(graphs[0], 1, 2):
                there = lead_through(graphs[0], chain, row)
                self.assertEqual(lead_back(graphs[0], chain, there), normal_row(row))
            for row in rows_of(graphs[-1], 0, 2):
                back = lead_back(graphs[0], chain, row)
                self.assertEqual(lead_through(graphs[0], chain, back), normal_row(row))

    def test_rows_in_another_form(self):
        chain = [Split(0, (1,)), Renaming((1, 0), (3, 0, 1, 2))]
        for row in (((0, 1), (1,)), ((0, 1, 1), (1, 1, 1)), ((0,), (1, 1))):
            self.assertEqual(lead_through(double(), chain, row), lead_through(double(), chain, ((0,), (1,))))
        last = lead_through(double(), chain, ((0,), (1,)))
        longer = (last[0] + last[1], last[1] * 3)
        self.assertNotEqual(longer, last)
        self.assertEqual(lead_back(double(), chain, longer), ((0,), (1,)))


class RowErrorsTest(KinCase):
    def test_row_of_the_first_graph(self):
        chain = [Split(0, (1,))]
        for row, place in (((), ()), -1), (((0,), ()), -1), (((), (2,)), 0), (((0, 3), (1,)), 1), (((0,), (1, -1)), 2):
            self.assert_raises(InvalidRow, {"place": place}, lead_through, double(), chain, row)
        # a row of the last graph, but not of the first one
        self.assert_raises(InvalidRow, {"place": 0}, lead_through, double(), chain, ((2,), (3,)))

    def test_row_of_the_last_graph(self):
        chain = [Split(0, (1,))]
        for row, place in (((), ()), -1), (((2,), ()), -1), (((), (4,)), 0), (((2, 4), (3,)), 1), (((), (HUGE,)), 0):
            self.assert_raises(InvalidRow, {"place": place}, lead_back, double(), chain, row)
        # a row of the first graph, but not of the last one
        self.assert_raises(InvalidRow, {"place": 1}, lead_back, double(), chain, ((0,), (1,)))
        self.assert_raises(InvalidRow, {"place": 1}, lead_back, double(), chain, ((), (2,)))
        self.assertEqual(lead_back(double(), chain, ((2,), (3,))), ((0,), (1,)))

    def test_steps_are_checked_ahead_of_the_row(self):
        for lead in (lead_through, lead_back):
            self.assert_raises(InvalidStep, {}, lead, double(), [Merge(0, 1)], ((), ()))
            self.assert_raises(LimitExceeded, {"limit": 60}, lead, double(), [SAME] * 61, ((), ()))


class ChainErrorsTest(KinCase):
    def assert_no_chain(self, error, fields, graph, chain):
        for call in calls(graph, chain):
            self.assert_raises(error, fields, call)
        for other in (graph, golden(), Graph.full(1)):
            self.assertIs(leads_to(graph, other, chain), False)

    def test_59_60_and_61_steps(self):
        self.assertEqual(MAX_STEPS, 60)
        for length in (59, 60):
            chain = [TURN] * length
            self.assertEqual(chain_result(double(), chain), double())
            self.assertEqual(undone_chain(double(), chain), chain)
            self.assertEqual(lead_through(double(), chain, ((), (0,))), ((), (length % 2,)))
            self.assertEqual(lead_back(double(), chain, ((), (0,))), ((), (length % 2,)))
            for back in (False, True):
                self.assertEqual(chain_code(double(), chain, back=back).images(), [length % 2, 1 - length % 2])
            self.assertTrue(leads_to(double(), double(), chain))
        for length in (61, 62, 250):
            self.assert_no_chain(LimitExceeded, {"limit": 60}, double(), [TURN] * length)

    def test_length_comes_first(self):
        self.assert_no_chain(LimitExceeded, {"limit": 60}, double(), [Merge(0, 1)] * 61)
        self.assert_no_chain(LimitExceeded, {"limit": 60}, Graph.full(24), [Split(0, (1,))] * 61)

    def test_step_in_the_middle_that_is_not_allowed(self):
        start = [Split(0, (1,)), Renaming((1, 0), (3, 0, 1, 2))]
        for wrong in (Merge(1, 0), Merge(0, 2), Split(0, (1,)), Split(5, (0,)), SAME, Renaming((), ())):
            self.assert_no_chain(InvalidStep, {}, double(), start + [wrong])
            self.assert_no_chain(InvalidStep, {}, double(), start + [wrong, Merge(0, 1)])
            self.assert_no_chain(InvalidStep, {}, double(), start + [wrong] + [Merge(0, 1)] * 57)

    def test_step_that_only_the_first_graph_allows(self):
        self.assert_no_chain(InvalidStep, {}, double(), [Split(0, (1,)), SAME])
        self.assert_no_chain(InvalidStep, {}, mixed(), [Merge(0, 1), Merge(0, 1)])

    def test_graph_that_becomes_too_large(self):
        eight = Graph(8, ring(8, 1).edges() + [(3, 3)])
        same = Renaming(tuple(range(8)), tuple(range(9)))
        self.assert_no_chain(LimitExceeded, {"limit": 8}, eight, [same, Split(3, (8,)), same])
        self.assert_no_chain(LimitExceeded, {"limit": 24}, Graph.full(12), [Split(0, (5,)), Split(0, (0, 1))])

    def test_errors_of_the_steps_one_after_the_other(self):
        large = Split(0, (5,))
        self.assert_no_chain(LimitExceeded, {"limit": 24}, Graph.full(13), [large, Merge(0, 9)])
        self.assert_no_chain(InvalidStep, {}, Graph.full(13), [Merge(0, 9), large])


class UndoneTest(KinCase):
    def check_undone(self, chain, graphs):
        """Follows the undone chain graph by graph; each undone step ends at the graph before it."""
        undone = undone_chain(graphs[0], chain)
        now, place = graphs[-1], 0
        for graph, step in reversed(list(zip(graphs, chain))):
            for each in step.undone(graph):
                self.assertEqual(undone[place], each)
                now, place = each.result(now), place + 1
            self.assertEqual(now, graph)
        self.assertEqual(place, len(undone))
        return undone

    def test_undone_chain_leads_back_graph_by_graph(self):
        for chain, graphs in chains(12):
            undone = self.check_undone(chain, graphs)
            self.assertTrue(leads_to(graphs[-1], graphs[0], undone))
            for row in rows_of(graphs[0], 1, 2)[:20]:
                there = lead_through(graphs[0], chain, row)
                self.assertEqual(lead_through(graphs[-1], undone, there), normal_row(row))

    def test_more_steps_than_the_chain(self):
        self.assertEqual(undone_chain(wide(), [Merge(1, 3)]),
                         [Split(1, (5, 6)), Renaming((0, 1, 2, 4, 3), (1, 2, 3, 4, 5, 6, 9, 10, 0, 7, 8))])

    def test_more_than_60_steps(self):
        chain = round_trips(20)
        undone = undone_chain(double(), chain)
        self.assertEqual(len(undone), 80)
        now = double()
        for step in undone:
            now = step.result(now)
        self.assertEqual(now, double())
        self.assert_raises(LimitExceeded, {"limit": 60}, chain_result, double(), undone)
        self.assertIs(leads_to(double(), double(), undone), False)
        self.assertTrue(leads_to(double(), double(), undone[:60]))

    def test_undone_twice(self):
        for chain, graphs in chains(12):
            undone = undone_chain(graphs[0], chain)
            again = undone_chain(graphs[-1], undone)
            self.assertTrue(leads_to(graphs[0], graphs[-1], again))
            for row in rows_of(graphs[0], 0, 2):
                self.assertEqual(lead_through(graphs[0], again, row), lead_through(graphs[0], chain, row))

    def test_last_steps_first(self):
        chain = [TURN, Split(0, (1,)), Renaming((1, 0), (3, 0, 1, 2))]
        self.assertEqual(undone_chain(double(), chain), [Renaming((1, 0), (1, 2, 3, 0)), Merge(0, 1), TURN])


class ChainCodeTest(KinCase):
    def test_composed_codes(self):
        checked = 0
        for length in (2, 3, 5):
            for chain, graphs in chains(length):
                forward = [step.forward(graph) for graph, step in zip(graphs, chain)]
                back = [step.back(graph) for graph, step in zip(graphs, chain)][::-1]
                for codes, turned in (forward, False), (back, True):
                    try:
                        expected = compose(*codes)
                    except LimitExceeded as error:
                        self.assert_raises(LimitExceeded, {"limit": error.limit}, chain_code, graphs[0], chain,
                                           back=turned)
                    else:
                        self.assertEqual(chain_code(graphs[0], chain, back=turned), expected)
                        checked += 1
        self.assertGreater(checked, 60)

    def test_codes_lead_like_the_chain(self):
        for chain, graphs in chains(3):
            forward, back = chain_code(graphs[0], chain), chain_code(graphs[0], chain, back=True)
            self.assertEqual([forward.source, forward.target], [graphs[0], graphs[-1]])
            self.assertEqual([back.source, back.target], [graphs[-1], graphs[0]])
            for row in rows_of(graphs[0], 1, 2):
                self.assertEqual(forward.lead(row), lead_through(graphs[0], chain, row))
            for row in rows_of(graphs[-1], 0, 2):
                self.assertEqual(back.lead(row), lead_back(graphs[0], chain, row))

    def test_each_code_is_the_inverse_of_the_other_one(self):
        chain = [Split(0, (1,)), Split(0, (2,)), Renaming((2, 0, 1), (5, 0, 1, 2, 3, 4))]
        forward, back = chain_code(double(), chain), chain_code(double(), chain, back=True)
        self.assertEqual([forward.width, back.width], [3, 1])
        self.assertEqual(compose(forward, back), Code.identity(double()))
        self.assertTrue(alike(inverse(forward), back))

    def test_back_defaults_to_false(self):
        chain = [Split(0, (1,))]
        self.assertEqual(chain_code(double(), chain), chain_code(double(), chain, back=False))
        self.assertNotEqual(chain_code(double(), chain), chain_code(double(), chain, back=True))
        self.assertRaises(TypeError, lambda: chain_code(double(), chain, True))

    def test_width_that_would_be_greater_than_4(self):
        # each split needs one more edge in advance
        chain = [Split(0, (1,)), Split(0, (2,)), Split(0, (0,))]
        graph = double()
        for step in chain:
            self.assertLessEqual(step.forward(graph).width, 2)
            graph = step.result(graph)
        self.assertEqual(chain_code(double(), chain).width, 4)
        longer = chain + [Split(3, (graph.leaving(3)[0],))]
        self.assertEqual(chain_result(double(), longer).states, 5)
        self.assert_raises(LimitExceeded, {"limit": 4}, chain_code, double(), longer)
        self.assertEqual(chain_code(double(), longer, back=True).width, 1)
        large = chain_result(double(), longer)
        undone = undone_chain(double(), longer)
        self.assertEqual(chain_code(large, undone).width, 1)
        self.assert_raises(LimitExceeded, {"limit": 4}, chain_code, large, undone, back=True)

    def test_more_than_600_paths(self):
        graph = Graph(2, [(0, 0)] * 10 + [(0, 1), (1, 1), (1, 0), (1, 0)])
        chain = [Split(1, (12,)), Split(1, (11,))]
        self.assertEqual(chain_result(graph, chain).states, 4)
        self.assert_raises(LimitExceeded, {"limit": 600}, chain_code, graph, chain)
        self.assertEqual(chain_code(graph, chain, back=True).width, 1)

    def test_codes_are_narrowed_on_the_way(self):
        chain = round_trips(20)
        self.assertEqual(len(chain), 60)
        self.assertEqual(chain_result(double(), chain), double())
        forward, back = chain_code(double(), chain), chain_code(double(), chain, back=True)
        self.assertEqual([forward.width, back.width], [1, 1])
        self.assertEqual(compose(forward, back), Code.identity(double()))
        for row in rows_of(double(), 2, 3):
            self.assertEqual(lead_through(double(), chain, row), forward.lead(row))
            self.assertEqual(lead_back(double(), chain, row), back.lead(row))


class LeadsToTest(KinCase):
    def test_last_graph(self):
        for chain, graphs in chains(6):
            for graph in graphs[:-1]:
                self.assertIs(leads_to(graphs[0], graph, chain), graph == graphs[-1])
            self.assertIs(leads_to(graphs[0], graphs[-1], chain), True)

    def test_graph_that_is_only_renamed(self):
        self.assertIs(leads_to(golden(), golden(), [Renaming((1, 0), (0, 1, 2))]), False)
        self.assertIs(leads_to(golden(), Graph(2, [(1, 1), (1, 0), (0, 1)]), [Renaming((1, 0), (0, 1, 2))]), True)


class GeneralRulesTest(KinCase):
    def test_arguments_by_name(self):
        chain, row = [Split(0, (1,))], ((0,), (1,))
        last = chain_result(double(), chain)
        self.assertEqual(chain_result(graph=double(), chain=chain), last)
        self.assertEqual(lead_through(graph=double(), chain=chain, row=row), lead_through(double(), chain, row))
        self.assertEqual(lead_back(row=((2,), (3,)), chain=chain, graph=double()), row)
        self.assertEqual(undone_chain(graph=double(), chain=chain), undone_chain(double(), chain))
        self.assertEqual(chain_code(graph=double(), chain=chain, back=False), chain_code(double(), chain))
        self.assertTrue(leads_to(one=double(), other=last, chain=chain))

    def test_tuples_of_steps(self):
        chain = round_trips(2)
        self.assertEqual(chain_result(double(), tuple(chain)), double())
        self.assertEqual(undone_chain(double(), tuple(chain)), undone_chain(double(), chain))
        self.assertEqual(chain_code(double(), tuple(chain)), chain_code(double(), chain))
        self.assertTrue(leads_to(double(), double(), tuple(chain)))

    def test_arguments_are_not_changed_and_lists_are_new(self):
        chain = [TURN, Split(0, (1,))]
        for call in calls(double(), chain)[3:]:
            call()
        self.assertEqual(chain, [TURN, Split(0, (1,))])
        undone = undone_chain(double(), chain)
        undone.clear()
        self.assertEqual(undone_chain(double(), chain), [Merge(0, 1), TURN])
        empty = []
        undone_chain(double(), empty).append(TURN)
        self.assertEqual(empty, [])
