from itertools import combinations, permutations
from unittest import mock

from tests.support import KinCase, double, golden, merges, mixed, renamings, ring, rows_of, splits, step_graphs, wide
from windowkin.codes import Code, alike, compose
from windowkin.errors import InvalidStep, LimitExceeded
from windowkin.graphs import Graph
from windowkin.judging import inverse
from windowkin.rows import normal_row
from windowkin.steps import Merge, Renaming, Split, Step

HUGE = 10 ** 29


def all_steps():
    """Graphs and steps that they allow."""
    return [(graph, step) for graph in step_graphs() for step in splits(graph) + merges(graph) + renamings(graph)]


def calls(step):
    """All methods of a step that take a graph."""
    return [step.check, step.result, step.forward, step.back, step.undone]


class SplitTest(KinCase):
    def test_example(self):
        step = Split(0, (1,))
        large = step.result(double())
        self.assertEqual([large.edges(), step.forward(double()).images(), step.back(double()).images(),
                          step.undone(double()) == [Merge(0, 1)], step.text()],
                         [[(0, 0), (1, 0), (0, 1), (1, 1)], [0, 2, 1, 3], [0, 1, 0, 1], True, "split 0 1"])

    def test_golden_graph(self):
        step = Split(0, (1,))
        self.assertEqual(step.result(golden()), Graph(3, [(0, 0), (2, 1), (1, 0), (0, 2), (1, 2)]))
        # the paths are (0, 0), (0, 1), (1, 2), (2, 0), (2, 1)
        self.assertEqual(step.forward(golden()).images(), [0, 3, 1, 2, 4])
        self.assertEqual(step.back(golden()).images(), [0, 1, 2, 0, 2])

    def test_loop_in_the_part(self):
        step = Split(0, (0,))
        self.assertEqual(step.result(golden()), Graph(3, [(2, 0), (0, 1), (1, 0), (2, 2), (1, 2)]))
        self.assertEqual(step.forward(golden()).images(), [3, 0, 1, 4, 2])
        self.assertEqual(step.back(golden()).images(), [0, 1, 2, 0, 2])

    def test_state_that_is_no_target(self):
        graph = Graph(2, [(0, 0), (1, 0), (1, 0)])
        step = Split(1, (2,))
        self.assertEqual(step.result(graph), Graph(3, [(0, 0), (1, 0), (2, 0)]))
        self.assertEqual([step.forward(graph).images(), step.back(graph).images()], [[0, 1, 2], [0, 1, 2]])
        self.assertEqual([step.forward(graph).width, step.back(graph).width], [2, 1])

    def test_every_part_of_small_graphs(self):
        for graph in step_graphs():
            for state in range(graph.states):
                leaving = graph.leaving(state)
                for size in range(len(graph) + 1):
                    for part in combinations(range(len(graph)), size):
                        allowed = 0 < size < len(leaving) and set(part) <= set(leaving)
                        if allowed:
                            self.check_split(graph, state, part)
                        elif size < 4:
                            self.assert_raises(InvalidStep, {}, Split(state, part).check, graph)

    def check_split(self, graph, state, part):
        """Compares a split with the words of the document, edge by edge."""
        step = Split(state, part)
        self.assertIsNone(step.check(graph))
        large = step.result(graph)
        entering = graph.entering(state)
        copy_of = {edge: len(graph) + place for place, edge in enumerate(entering)}
        self.assertEqual([large.states, len(large)], [graph.states + 1, len(graph) + len(entering)])
        for number, (source, target) in enumerate(graph.edges()):
            new_source = graph.states if number in part else source
            self.assertEqual(large.edge(number), (new_source, target))
            if number in copy_of:
                self.assertEqual(large.edge(copy_of[number]), (new_source, graph.states))
        forward = step.forward(graph)
        for row in rows_of(graph, 1, 2):
            edges = row[0] + row[1] * 3
            led = tuple(copy_of[edge] if after in part else edge for edge, after in zip(edges, edges[1:]))
            self.assertEqual(forward.lead_path(edges), led)
        self.assertEqual(step.back(graph).images(), list(range(len(graph))) + entering)

    def test_wrong_steps(self):
        for step in (Split(0, ()), Split(0, (0, 1)), Split(0, (1, 0)), Split(0, (2,)), Split(0, (1, 2)), Split(1, (2,)),
                     Split(2, (0,)), Split(-1, (2,)), Split(-2, (1,)), Split(0, (0, 0)), Split(0, (1, 1)),
                     Split(0, (3,)), Split(0, (-1,)), Split(0, (-2,)), Split(0, (-3,)), Split(HUGE, (0,)),
                     Split(-HUGE, (0,)), Split(0, (HUGE,)), Split(0, (0, HUGE)), Split(0, (-HUGE, 0)), Split(1, ()),
                     Split(HUGE, ())):
            for call in calls(step):
                self.assert_raises(InvalidStep, {}, call, golden())

    def test_parts_of_a_state_with_three_edges(self):
        three = Graph.full(3)
        for part in ((1, 0), (2, 0), (0, 0, 1), (0, 1, 1), (0, 2, 1), (0, 1, 2), (2, 1, 0), (0, 1, 2, 2)):
            self.assert_raises(InvalidStep, {}, Split(0, part).check, three)
        for part in ((0,), (1,), (2,), (0, 1), (0, 2), (1, 2)):
            self.assertIsNone(Split(0, part).check(three))

    def test_8_states_and_9_states(self):
        seven = Graph(7, ring(7, 1).edges() + [(3, 3)])
        self.assertEqual(Split(3, (7,)).result(seven).states, 8)
        eight = Graph(8, ring(8, 1).edges() + [(3, 3)])
        for call in calls(Split(3, (8,))):
            self.assert_raises(LimitExceeded, {"limit": 8}, call, eight)

    def test_24_edges_and_25_edges(self):
        self.assertEqual(len(Split(0, (5,)).result(Graph.full(12))), 24)
        for call in calls(Split(0, (5,))):
            self.assert_raises(LimitExceeded, {"limit": 24}, call, Graph.full(13))
        # 6 edges lead to the state 0, so they are doubled: 18 + 6 and 19 + 6 edges
        back_and_on = [(1, 0)] * 6 + [(1, 1)]
        self.assertEqual(len(Split(0, (7, 8)).result(Graph(2, back_and_on + [(0, 1)] * 11))), 24)
        for call in calls(Split(0, (7, 8))):
            self.assert_raises(LimitExceeded, {"limit": 24}, call, Graph(2, back_and_on + [(0, 1)] * 12))
        # a state that is no target adds no edges
        self.assertEqual(len(Split(1, (1,)).result(Graph(2, [(0, 0)] + [(1, 0)] * 23))), 24)

    def test_order_of_the_errors(self):
        crowded = ring(8, 3)
        for call in calls(Split(0, ())):
            self.assert_raises(InvalidStep, {}, call, crowded)
        for call in calls(Split(0, (0, 1, 2))):
            self.assert_raises(InvalidStep, {}, call, crowded)
        for call in calls(Split(0, (0,))):
            self.assert_raises(LimitExceeded, {"limit": 8}, call, crowded)

    def test_argument_is_copied(self):
        part = [1]
        step = Split(0, part)
        part.append(7)
        self.assertEqual(step, Split(0, (1,)))
        self.assertEqual(step.text(), "split 0 1")


class MergeTest(KinCase):
    def test_example(self):
        self.assert_raises(InvalidStep, {}, Merge(0, 1).result, golden())

    def test_edges_in_any_order(self):
        step = Merge(0, 1)
        self.assertEqual(step.result(mixed()), double())
        # the edges 0 and 3 are paired, and 2 and 1; of them 3 and 1 are kept
        self.assertEqual(step.forward(mixed()).images(), [1, 0, 0, 1])
        self.assertEqual(step.back(mixed()).images(), [2, 1, 0, 3])
        self.assertEqual(step.undone(mixed()), [Split(0, (0,)), Renaming((0, 1), (1, 3, 2, 0))])

    def test_several_edges_from_one_state(self):
        step = Merge(1, 3)
        # the edges 0, 7 and 8 are removed; of the state 0, 2 is paired with 0 and 5 with 7; of the state 4, 10 with 8
        self.assertEqual(step.result(wide()).edges(),
                         [(3, 3), (0, 1), (1, 0), (2, 3), (0, 1), (1, 2), (1, 0), (3, 1)])
        self.assertEqual(step.forward(wide()).images(), [1, 0, 1, 2, 3, 4, 5, 4, 7, 6, 7])
        self.assertEqual([step.forward(wide()).width, step.back(wide()).width], [1, 2])
        back = step.back(wide())
        # the new edges 5 and 6 had the source 3
        self.assertEqual([back.lead_path((1, after))[0] for after in (2, 5, 6)], [2, 0, 0])
        self.assertEqual([back.lead_path((4, after))[0] for after in (2, 5, 6)], [5, 7, 7])
        self.assertEqual([back.lead_path((7, after))[0] for after in (2, 5, 6)], [10, 8, 8])
        self.assertEqual([back.lead_path((0, 0)), back.lead_path((5, 3))], [(1,), (6,)])
        self.assertEqual(step.undone(wide()),
                         [Split(1, (5, 6)), Renaming((0, 1, 2, 4, 3), (1, 2, 3, 4, 5, 6, 9, 10, 0, 7, 8))])

    def test_states_that_are_no_targets(self):
        graph = Graph(3, [(1, 0), (0, 0), (2, 0)])
        step = Merge(1, 2)
        self.assertEqual(step.result(graph), Graph(2, [(1, 0), (0, 0), (1, 0)]))
        self.assertEqual(step.forward(graph).images(), [0, 1, 2])
        self.assertEqual([step.back(graph).images(), step.back(graph).width], [[0, 1, 2], 2])
        self.assertEqual(step.undone(graph), [Split(1, (2,))])

    def test_numbers_of_greater_states_decrease(self):
        graph = Graph(4, [(1, 3), (2, 3), (3, 3), (0, 1)])
        self.assertEqual(Merge(0, 2).result(graph), Graph(3, [(1, 2), (0, 2), (2, 2), (0, 1)]))

    def test_pairs_that_can_be_merged(self):
        for graph in step_graphs():
            allowed = merges(graph)
            for one in range(-1, graph.states + 1):
                for other in range(-1, graph.states + 1):
                    step = Merge(one, other)
                    if step in allowed:
                        self.assertIsNone(step.check(graph))
                        self.assertEqual(step.result(graph).states, graph.states - 1)
                        self.assertEqual(len(step.result(graph)), len(graph) - len(graph.entering(other)))
                    else:
                        for call in calls(step):
                            self.assert_raises(InvalidStep, {}, call, graph)
        self.assertGreater(len([step for graph in step_graphs() for step in merges(graph)]), 5)

    def test_wrong_steps(self):
        for step in (Merge(1, 0), Merge(0, 0), Merge(1, 1), Merge(0, 2), Merge(-1, 1), Merge(-2, 1), Merge(-2, -1),
                     Merge(0, -1), Merge(0, HUGE), Merge(-HUGE, 1), Merge(HUGE, HUGE + 1), Merge(2, 3)):
            for call in calls(step):
                self.assert_raises(InvalidStep, {}, call, mixed())

    def test_equally_many_edges_from_each_state(self):
        # as many edges in all, but not from each state
        graph = Graph(2, [(0, 0), (0, 0), (1, 1), (1, 1)])
        self.assert_raises(InvalidStep, {}, Merge(0, 1).check, graph)
        self.assertIsNone(Merge(0, 1).check(Graph(2, [(0, 0), (0, 1), (1, 1), (1, 0)])))
        self.assert_raises(InvalidStep, {}, Merge(0, 1).check, Graph(2, [(0, 0), (0, 1), (1, 1), (1, 0), (1, 0)]))

    def test_great_graphs(self):
        eight = Graph(8, [(state, 0) for state in range(8)] + [(state, 1) for state in range(8)])
        self.assertEqual(Merge(0, 1).result(eight).states, 7)
        self.assertEqual(Merge(2, 7).result(eight).states, 7)
        large = Graph(2, [(0, 0), (0, 1)] * 6 + [(1, 0), (1, 1)] * 6)
        self.assertEqual(Merge(0, 1).result(large), Graph.full(12))


class RenamingTest(KinCase):
    def test_golden_graph(self):
        step = Renaming((1, 0), (2, 0, 1))
        # edge 0 becomes edge 2 and so on, and both states change their numbers
        self.assertEqual(step.result(golden()), Graph(2, [(1, 0), (0, 1), (1, 1)]))
        self.assertEqual([step.forward(golden()).images(), step.back(golden()).images()], [[2, 0, 1], [1, 2, 0]])
        self.assertEqual([step.forward(golden()).width, step.back(golden()).width], [1, 1])
        self.assertEqual(step.undone(golden()), [Renaming((1, 0), (1, 2, 0))])

    def test_states_that_are_turned(self):
        step = Renaming((1, 2, 0), (0, 1, 2))
        self.assertEqual(step.result(ring(3, 1)), Graph(3, [(1, 2), (2, 0), (0, 1)]))
        self.assertEqual(step.undone(ring(3, 1)), [Renaming((2, 0, 1), (0, 1, 2))])
        line = Graph(3, [(0, 1), (1, 2), (2, 2)])
        self.assertEqual(step.result(line), Graph(3, [(1, 2), (2, 0), (0, 0)]))

    def test_renaming_that_changes_nothing(self):
        step = Renaming((0, 1), (0, 1, 2))
        self.assertEqual(step.result(golden()), golden())
        self.assertEqual(step.undone(golden()), [step])

    def test_all_permutations(self):
        for states in permutations(range(2)):
            for edges in permutations(range(3)):
                step = Renaming(states, edges)
                new = step.result(golden())
                for number, (source, target) in enumerate(golden().edges()):
                    self.assertEqual(new.edge(edges[number]), (states[source], states[target]))
                    self.assertEqual(step.forward(golden()).lead_path((number,)), (edges[number],))
                    self.assertEqual(step.back(golden()).lead_path((edges[number],)), (number,))

    def test_wrong_steps(self):
        for step in (Renaming((), ()), Renaming((0, 1), ()), Renaming((), (0, 1, 2)), Renaming((0,), (0, 1, 2)),
                     Renaming((0, 1), (0, 1)), Renaming((0, 1, 2), (0, 1, 2)), Renaming((0, 1), (0, 1, 2, 3)),
                     Renaming((0, 0), (0, 1, 2)), Renaming((1, 1), (0, 1, 2)), Renaming((0, 1), (0, 1, 1)),
                     Renaming((0, -1), (0, 1, 2)), Renaming((0, 1), (0, 1, -1)), Renaming((1, 2), (0, 1, 2)),
                     Renaming((0, 1), (1, 2, 3)), Renaming((0, HUGE), (0, 1, 2)), Renaming((0, 1), (-HUGE, 0, 1)),
                     Renaming((-2, -1), (-3, -2, -1)), Renaming((0, 1, 1), (0, 1, 2)), Renaming((0, 1), (0, 1, 2, 2))):
            for call in calls(step):
                self.assert_raises(InvalidStep, {}, call, golden())

    def test_great_graph(self):
        graph = ring(8, 3)
        step = Renaming(tuple(reversed(range(8))), tuple(reversed(range(24))))
        self.assertEqual(step.undone(graph), [step])
        self.assertEqual(step.result(step.result(graph)), graph)

    def test_arguments_are_copied(self):
        states, edges = [1, 0], [2, 0, 1]
        step = Renaming(states, edges)
        states.append(2)
        edges[0] = 0
        self.assertEqual(step, Renaming((1, 0), (2, 0, 1)))


class AllStepsTest(KinCase):
    def test_check_returns_nothing(self):
        for graph, step in all_steps():
            self.assertIsNone(step.check(graph))

    def test_codes_lead_between_the_graphs(self):
        for graph, step in all_steps():
            new = step.result(graph)
            forward, back = step.forward(graph), step.back(graph)
            self.assertEqual([forward.source, forward.target, back.source, back.target], [graph, new, new, graph])
            widths = {Split: (2, 1), Merge: (1, 2), Renaming: (1, 1)}
            self.assertEqual((forward.width, back.width), widths[type(step)])

    def test_each_code_is_the_inverse_of_the_other_one(self):
        for graph, step in all_steps():
            forward, back = step.forward(graph), step.back(graph)
            self.assertEqual(compose(forward, back), Code.identity(graph))
            self.assertEqual(compose(back, forward), Code.identity(step.result(graph)))

    def test_inverse_finds_the_other_code(self):
        for graph, step in all_steps()[::7]:
            if len(step.forward(graph).narrowed()) <= 12 and len(step.back(graph).narrowed()) <= 12:
                self.assertTrue(alike(inverse(step.forward(graph)), step.back(graph)))
                self.assertTrue(alike(inverse(step.back(graph)), step.forward(graph)))

    def test_rows_are_led_there_and_back(self):
        for graph, step in all_steps()[::5]:
            forward, back = step.forward(graph), step.back(graph)
            for row in rows_of(graph, 1, 2):
                self.assertEqual(back.lead(forward.lead(row)), normal_row(row))
            for row in rows_of(step.result(graph), 1, 2):
                self.assertEqual(forward.lead(back.lead(row)), normal_row(row))

    def test_undone_steps_lead_back(self):
        for graph, step in all_steps():
            new = step.result(graph)
            code = Code.identity(new)
            for each in step.undone(graph):
                code = compose(code, each.forward(new))
                new = each.result(new)
            self.assertEqual(new, graph)
            self.assertTrue(alike(code, step.back(graph)))

    def test_what_undone_steps_are(self):
        for graph, step in all_steps():
            undone = step.undone(graph)
            self.assertIsInstance(undone, list)
            kinds = [type(each) for each in undone]
            if isinstance(step, Merge):
                new = step.result(graph)
                # the split alone is enough if it already gives every edge, and so every state, its old number
                alone = undone[0].result(new) == graph and alike(undone[0].forward(new), step.back(graph))
                self.assertEqual(kinds, [Split] if alone else [Split, Renaming])
            else:
                self.assertEqual(kinds, [Merge] if isinstance(step, Split) else [Renaming])

    def test_merge_that_undoes_a_split_is_undone_by_the_split_alone(self):
        for graph in step_graphs():
            for step in splits(graph):
                state = int(step.text().split(" ")[1])
                self.assertEqual(step.undone(graph), [Merge(state, graph.states)])
                self.assertEqual(Merge(state, graph.states).undone(step.result(graph)), [step])

    def test_renaming_is_left_out_only_if_every_number_is_the_old_one(self):
        # every state has its old number, but not every edge
        graph = Graph(2, [(0, 0), (0, 0), (0, 1), (0, 1), (1, 0), (1, 1)])
        self.assertEqual(Merge(0, 1).undone(graph), [Split(0, (2,)), Renaming((0, 1), (0, 1, 4, 2, 3, 5))])
        ordered = Graph(2, [(0, 0), (0, 0), (1, 0), (0, 1), (0, 1), (1, 1)])
        self.assertEqual(Merge(0, 1).undone(ordered), [Split(0, (2,))])
        # every edge has its old number, but not every state
        graph = Graph(3, [(0, 2), (1, 2), (2, 2)])
        self.assertEqual(Merge(0, 1).undone(graph), [Split(0, (1,)), Renaming((0, 2, 1), (0, 1, 2))])

    def test_lists_are_new(self):
        step = Split(0, (1,))
        step.undone(double()).clear()
        self.assertEqual(step.undone(double()), [Merge(0, 1)])

    def test_nothing_is_changed(self):
        for graph, step in all_steps()[::11]:
            before, text = Graph(graph.states, graph.edges()), step.text()
            for call in calls(step):
                call(graph)
            self.assertEqual([graph, step.text()], [before, text])

    def test_equal_calls_have_equal_results(self):
        for graph, step in all_steps()[::11]:
            for call in calls(step):
                self.assertEqual(call(graph), call(Graph(graph.states, graph.edges())))


class StepValuesTest(KinCase):
    def test_base_class(self):
        for step in (Split(0, (1,)), Merge(0, 1), Renaming((0,), (0,))):
            self.assertIsInstance(step, Step)
            self.assertEqual(type(step).__bases__, (Step,))

    def test_equal_steps(self):
        for make in (lambda: Split(0, (1, 2)), lambda: Merge(0, 1), lambda: Renaming((1, 0), (0, 1)),
                     lambda: Split(-1, ()), lambda: Merge(5, 5), lambda: Renaming((), (HUGE,))):
            self.assertTrue(make() == make())
            self.assertFalse(make() != make())

    def test_unequal_steps(self):
        steps = [Split(0, (1,)), Split(1, (1,)), Split(0, (1, 2)), Split(0, (2, 1)), Split(0, ()), Merge(0, 1),
                 Merge(1, 0), Merge(0, 2), Merge(1, 1), Renaming((0,), (1,)), Renaming((0,), (0,)),
                 Renaming((1,), (1,)), Renaming((0,), (1, 2)), Renaming((), ()), Renaming((), (0,)), Renaming((0,), ())]
        for place, step in enumerate(steps):
            for other_place, other in enumerate(steps):
                self.assertIs(step == other, place == other_place)
                self.assertIs(step != other, place != other_place)

    def test_step_is_not_equal_to_any_other_value(self):
        for step in (Split(0, (1,)), Merge(0, 1), Renaming((0, 1), (0, 1, 2))):
            for other in (None, 0, True, step.text(), (0, 1), (0, (1,)), [0, 1], {}, golden(), Split, Merge, Renaming,
                          Step(), object(), mock.ANY):
                self.assertFalse(step == other)
                self.assertTrue(step != other)

    def test_arguments_by_name(self):
        self.assertEqual(Split(state=0, part=(1,)), Split(0, (1,)))
        self.assertEqual(Merge(one=0, other=1), Merge(0, 1))
        self.assertEqual(Renaming(states=(0,), edges=(1, 0)), Renaming((0,), (1, 0)))

    def test_texts(self):
        self.assertEqual(Split(0, (1,)).text(), "split 0 1")
        self.assertEqual(Split(10, (2, 13, 4)).text(), "split 10 2,13,4")
        self.assertEqual(Merge(0, 1).text(), "merge 0 1")
        self.assertEqual(Merge(7, 3).text(), "merge 7 3")
        self.assertEqual(Renaming((1, 0), (2, 0, 1)).text(), "rename 1,0 2,0,1")
        self.assertEqual(Renaming((0,), (0,)).text(), "rename 0 0")

    def test_texts_of_steps_that_no_graph_allows(self):
        self.assertEqual(Split(-1, (HUGE,)).text(), f"split -1 {HUGE}")
        self.assertEqual(Split(0, ()).text(), "split 0 ")
        self.assertEqual(Renaming((), ()).text(), "rename  ")
        self.assertEqual(Merge(-HUGE, HUGE).text(), f"merge -{HUGE} {HUGE}")
