from tests.support import (KinCase, double, golden, ladder, listed_paths, ring, sample_graphs, small_codes, spread,
                           sums)
from windowkin.codes import Code, compose
from windowkin.errors import LimitExceeded, NotOneToOne, NotOnto
from windowkin.graphs import Graph
from windowkin.judging import MAX_JUDGED, conflict, inverse, unreached, width_back
from windowkin.rows import check_row, normal_row
from windowkin.steps import Merge, Renaming, Split


def inlet():
    """A graph whose state 1 is no target of another state."""
    return Graph(2, [(0, 0), (1, 0), (1, 1)])


def porch():
    """A graph with two states that are no target at all."""
    return Graph(3, [(0, 0), (1, 0), (0, 0), (2, 0), (1, 0)])


def back_codes():
    """Codes of the widths from 1 to 4 that are one to one and onto and have the width back 1."""
    return [inverse(ladder(levels, 1)) for levels in range(4)] + [inverse(ladder(1, 2))]


def step_codes():
    """Forward and back codes of steps, which are one to one and onto."""
    found = []
    for graph, step in ((double(), Split(0, (1,))), (golden(), Split(0, (1,))), (porch(), Split(0, (2,))),
                        (inlet(), Split(1, (1,))), (porch(), Merge(1, 2)), (porch(), Split(1, (1,))),
                        (golden(), Renaming((1, 0), (2, 0, 1)))):
        found += [step.forward(graph), step.back(graph)]
    # from one split of a graph to another one: both the width and the width back are 2
    fan = Graph(5, [(4, 0), (0, 1), (0, 2), (0, 3), (1, 1), (2, 2), (3, 3)])
    found.append(compose(Split(0, (1,)).back(fan), Split(0, (2,)).forward(fan)))
    return found


def judged_codes():
    wide = [code.widened(code.width + 1) for code in (Code.identity(golden()), ladder(2, 1), spread(2))]
    many = [Code.identity(graph) for graph in sample_graphs()]
    return small_codes() + back_codes() + step_codes() + wide + many + [ladder(levels, 1) for levels in range(7)]


def merging():
    """Codes of the widths from 1 to 4 that are not one to one."""
    return [Code(double(), double(), 1, [1, 1]), spread(2), spread(3), spread(4),
            Code(porch(), double(), 1, [0, 0, 1, 1, 0]), Code(porch(), porch(), 1, [0, 1, 2, 1, 4]),
            Code(inlet(), Graph.full(1), 1, [0, 0, 0])]


def determines(code, count):
    """Whether the first edges of an image, so many of them, determine the first edge of the row."""
    firsts = {}
    for path in listed_paths(code.source, code.width + count - 1):
        firsts.setdefault(code.lead_path(path), set()).add(path[0])
    return all(len(edges) == 1 for edges in firsts.values())


class ConflictTest(KinCase):
    def check_pair(self, code, pair):
        self.assertIsInstance(pair, tuple)
        one, other = pair
        for row in pair:
            check_row(code.source, row)
            self.assertEqual(normal_row(row), row)
        self.assertNotEqual((one[0] + one[1])[0], (other[0] + other[1])[0])
        self.assertEqual(code.lead(one), code.lead(other))

    def test_codes_that_are_one_to_one(self):
        for code in back_codes() + step_codes() + [Code.identity(graph) for graph in sample_graphs()]:
            self.assertIsNone(conflict(code))

    def test_one_to_one_codes_of_every_width(self):
        self.assertEqual({code.narrowed().width for code in back_codes()}, {1, 2, 3, 4})

    def test_codes_that_are_not_one_to_one(self):
        for code in merging():
            self.check_pair(code, conflict(code))

    def test_conflict_agrees_with_the_width_back(self):
        for code in judged_codes():
            pair = conflict(code)
            if width_back(code) is None:
                self.check_pair(code, pair)
            else:
                self.assertIsNone(pair)

    def test_rows_that_never_meet_again(self):
        # the two rows of a conflict of the sums differ at every place
        one, other = conflict(sums())
        self.check_pair(sums(), (one, other))
        # two rings that do not touch each other
        rings = Graph(4, [(0, 1), (1, 0), (2, 3), (3, 2)])
        code = Code(rings, ring(2, 1), 1, [0, 1, 0, 1])
        self.check_pair(code, conflict(code))
        self.assertIsNone(conflict(Code(rings, rings, 1, [2, 3, 0, 1])))

    def test_rows_that_agree_for_long_but_not_for_ever(self):
        for levels in range(7):
            self.assertIsNone(conflict(ladder(levels, 1)))
        # rows of rings with 3 and 4 states agree for ever, if the edges by which the rings could be told apart do
        rings = Graph(7, [(0, 1), (1, 2), (2, 0), (3, 4), (4, 5), (5, 6), (6, 3)])
        self.assertIsNone(conflict(Code(rings, Graph.full(3), 1, [0, 1, 2, 0, 1, 2, 2])))
        same = Code(rings, Graph.full(3), 1, [1, 1, 1, 1, 1, 1, 1])
        self.check_pair(same, conflict(same))

    def test_state_that_is_no_target(self):
        # the only two rows begin in different states and meet at once
        code = Code(Graph(2, [(0, 0), (1, 0)]), Graph.full(1), 1, [0, 0])
        self.assertEqual(set(conflict(code)), {((), (0,)), ((1,), (0,))})
        code = Code(Graph(2, [(0, 0), (1, 0)]), double(), 1, [0, 1])
        self.assertIsNone(conflict(code))

    def test_great_codes(self):
        many = Graph.full(24)
        code = Code(many, double(), 2, [0] * 575 + [1])
        self.check_pair(code, conflict(code))
        shifted = Code(many, many, 2, [(first + last) % 24 for first in range(24) for last in range(24)])
        self.check_pair(shifted, conflict(shifted))
        turned = Code(many, many, 1, [(edge + 5) % 24 for edge in range(24)])
        self.assertIsNone(conflict(turned.widened(2)))

    def test_same_call_gives_the_same_pair(self):
        for code in merging():
            self.assertEqual(conflict(code), conflict(code.widened(code.width)))


class WidthBackTest(KinCase):
    def test_example(self):
        self.assertEqual([unreached(sums()), width_back(sums()), unreached(Code(double(), double(), 1, [0, 0])),
                          width_back(Code.identity(double()))], [None, None, (1,), 1])

    def test_widths_back_from_1_to_7(self):
        for levels in range(7):
            self.assertEqual(width_back(ladder(levels, 1)), levels + 1)

    def test_width_2_and_width_back_2(self):
        code = step_codes()[-1]
        self.assertEqual([code.narrowed().width, width_back(code), inverse(code).width], [2, 2, 2])

    def test_codes_back_have_the_width_back_1(self):
        for code in back_codes():
            self.assertEqual(width_back(code), 1)

    def test_graph_with_a_single_row(self):
        self.assertEqual(width_back(Code.identity(Graph.full(1))), 1)
        self.assertEqual(width_back(Code(Graph.full(1), Graph.full(1), 4, [0])), 1)

    def test_least_number_of_edges(self):
        for code in judged_codes():
            back = width_back(code)
            if back is not None:
                self.assertTrue(determines(code, back))
                self.assertTrue(back == 1 or not determines(code, back - 1))
            else:
                self.assertFalse(determines(code, 5))

    def test_codes_that_are_not_one_to_one(self):
        for code in merging():
            self.assertIsNone(width_back(code))

    def test_code_need_not_be_onto(self):
        self.assertEqual(width_back(Code(golden(), Graph.full(3), 1, [2, 0, 1])), 1)
        # each image is the second edge of a window, which never tells the first one of a row
        self.assertIsNone(width_back(Code(golden(), golden(), 2, [0, 1, 2, 0, 1])))

    def test_first_edge_is_told_by_what_follows(self):
        # the edges 0 and 1 have one image and lead to states whose edges have others
        graph = Graph(3, [(0, 1), (0, 2), (1, 0), (2, 0)])
        self.assertEqual(width_back(Code(graph, Graph.full(3), 1, [0, 0, 1, 2])), 2)
        self.assertIsNone(width_back(Code(graph, Graph.full(3), 1, [0, 0, 1, 1])))

    def test_many_images_are_allowed(self):
        self.assertEqual(width_back(Code.identity(Graph.full(24))), 1)
        self.assertEqual(width_back(ladder(6, 12)), 7)


class UnreachedTest(KinCase):
    def test_constant(self):
        self.assertEqual(MAX_JUDGED, 12)

    def test_codes_that_are_onto(self):
        for code in back_codes() + step_codes() + [sums(), spread(3)] + [ladder(levels, 2) for levels in range(7)]:
            self.assertIsNone(unreached(code))

    def test_edges_that_are_no_images(self):
        self.assertEqual(unreached(Code(double(), Graph.full(4), 1, [0, 2])), (1,))
        self.assertEqual(unreached(Code(double(), Graph.full(4), 1, [3, 1])), (0,))

    def test_shortest_path_and_of_these_the_least_one(self):
        # a row of the golden graph never has the edge 1 twice
        self.assertEqual(unreached(Code(golden(), double(), 1, [0, 1, 0])), (1, 1))
        self.assertEqual(unreached(Code(golden(), double(), 1, [1, 0, 1])), (0, 0))
        # both edges twice do not come, and 0 is less than 1
        self.assertEqual(unreached(Code(ring(2, 1), double(), 1, [1, 0])), (0, 0))
        # between two edges 1 there is always an even number of edges 0
        self.assertEqual(unreached(Code(golden(), double(), 1, [1, 0, 0])), (1, 0, 1))

    def test_shortest_path_through_several_states(self):
        # every row that comes to the edge 2 by the edge 1 goes on with 0, but a row may begin with 2 and 1
        source = Graph(4, [(0, 0), (0, 1), (1, 2), (2, 0), (3, 0)])
        self.assertEqual(unreached(Code(source, golden(), 1, [0, 1, 2, 0, 2])), (1, 2, 1))

    def test_all_small_codes(self):
        for code in judged_codes():
            if len(code.narrowed()) <= 12:
                self.check_shortest(code, unreached(code))

    def check_shortest(self, code, path):
        """Looks for a path that is not led to among all paths up to a length, the shortest ones first."""
        for length in range(1, 7 if path is None else len(path) + 1):
            reached = {code.lead_path(each) for each in listed_paths(code.source, code.width + length - 1)}
            missing = [each for each in listed_paths(code.target, length) if each not in reached]
            if missing:
                self.assertEqual(path, missing[0])
                return
        self.assertIsNone(path)

    def test_long_shortest_path(self):
        # the source is a line of states, on which no edge but the last one comes again
        line = Graph(8, [(state, state + 1) for state in range(7)] + [(7, 7)])
        code = Code(line, double(), 1, [0] * 7 + [1])
        self.assertEqual(unreached(code), (1, 0))
        code = Code(line, inlet(), 1, [2] * 6 + [1, 0])
        self.assertEqual(unreached(code), (2,) * 7)

    def test_target_with_a_part_that_is_never_entered(self):
        code = Code(Graph.full(1), inlet(), 1, [0])
        self.assertEqual(unreached(code), (1,))
        code = Code(Graph.full(1), inlet(), 1, [2])
        self.assertEqual(unreached(code), (0,))

    def test_12_and_13_images(self):
        self.assertIsNone(unreached(Code.identity(Graph.full(12))))
        self.assert_raises(LimitExceeded, {"limit": 12}, unreached, Code.identity(Graph.full(13)))
        self.assert_raises(LimitExceeded, {"limit": 12}, unreached, Code.identity(Graph.full(24)))
        self.assert_raises(LimitExceeded, {"limit": 12}, unreached, Code(Graph.full(13), double(), 1, [0] * 13))

    def test_12_and_13_images_of_wider_codes(self):
        code = Code(Graph(2, [(0, 0), (0, 1), (0, 1), (1, 0), (1, 0)]), double(), 2, [0, 1] * 6 + [0])
        self.assertEqual([code.narrowed().width, len(code)], [2, 13])
        self.assert_raises(LimitExceeded, {"limit": 12}, unreached, code)
        code = Code(Graph(2, [(0, 1), (0, 1), (1, 0), (1, 0), (1, 0)]), double(), 2, [0, 1] * 6)
        self.assertEqual([code.narrowed().width, len(code)], [2, 12])
        self.check_shortest(code, unreached(code))

    def test_images_of_the_narrowed_code_count(self):
        self.assertIsNone(unreached(Code.identity(Graph.full(12)).widened(2)))
        self.assertIsNone(unreached(Code.identity(golden()).widened(4)))
        self.assertIsNone(unreached(sums().widened(4)))
        self.assert_raises(LimitExceeded, {"limit": 12}, unreached, spread(4))


class InverseTest(KinCase):
    def check_inverse(self, code, back):
        self.assertEqual([back.source, back.target, back.width], [code.target, code.source, width_back(code)])
        self.assertEqual(compose(code.narrowed(), back), Code.identity(code.source))
        self.assertEqual(compose(back, code.narrowed()), Code.identity(code.target))

    def test_example(self):
        self.assert_raises(NotOneToOne, {}, inverse, Code(double(), double(), 2, [0, 1, 1, 0]))

    def test_both_compositions_are_identities(self):
        for levels in range(3):
            self.check_inverse(ladder(levels, 2), inverse(ladder(levels, 2)))
        # a width back of 4 behind a width of 1, and the other way round
        self.check_inverse(ladder(3, 2), inverse(ladder(3, 2)))
        for code in step_codes() + back_codes():
            self.check_inverse(code, inverse(code))

    def test_all_codes_that_have_an_inverse(self):
        for code in judged_codes():
            back = width_back(code)
            if back is not None and back <= 4 and len(code.narrowed()) <= 12 and unreached(code) is None:
                self.check_inverse(code, inverse(code))

    def test_inverse_of_the_inverse(self):
        for levels in range(4):
            code = ladder(levels, 1)
            self.assertEqual(inverse(inverse(code)), code)

    def test_images(self):
        self.assertEqual(inverse(Code(Graph.full(3), Graph.full(3), 1, [1, 2, 0])).images(), [2, 0, 1])
        self.assertEqual(inverse(Split(0, (1,)).back(double())), Split(0, (1,)).forward(double()))
        self.assertEqual(inverse(Split(0, (1,)).forward(double())), Split(0, (1,)).back(double()))
        self.assertEqual(inverse(ladder(1, 1)).images(), [0, 4, 0, 1, 2, 3])

    def test_wide_codes_with_few_images_when_narrowed(self):
        self.assertEqual(inverse(Code.identity(golden()).widened(4)), Code.identity(golden()))
        self.assertEqual(inverse(Code.identity(Graph.full(12)).widened(2)), Code.identity(Graph.full(12)))

    def test_codes_that_are_not_one_to_one(self):
        for code in merging():
            self.assert_raises(NotOneToOne, {}, inverse, code)

    def test_codes_with_many_images(self):
        self.assertEqual(inverse(Code.identity(Graph.full(12))), Code.identity(Graph.full(12)))
        self.assert_raises(LimitExceeded, {"limit": 12}, inverse, Code.identity(Graph.full(13)))

    def test_codes_that_are_not_onto(self):
        self.assert_raises(NotOnto, {}, inverse, Code(double(), Graph.full(3), 1, [0, 1]))
        self.assert_raises(NotOnto, {}, inverse, Code(golden(), Graph.full(3), 1, [0, 1, 2]))
        self.assert_raises(NotOnto, {}, inverse, Code(Graph.full(1), inlet(), 4, [0]))

    def test_width_back_4_and_5(self):
        self.assertEqual(inverse(ladder(3, 1)).width, 4)
        self.assert_raises(LimitExceeded, {"limit": 4}, inverse, ladder(4, 1))
        self.assert_raises(LimitExceeded, {"limit": 4}, inverse, ladder(6, 1))

    def test_paths_of_the_target(self):
        code = ladder(3, 6)
        self.assertEqual([len(code), width_back(code)], [12, 4])
        self.assertGreater(len(listed_paths(code.target, 4)), 600)
        self.assert_raises(LimitExceeded, {"limit": 600}, inverse, code)
        fewer = ladder(3, 4)
        self.assertLessEqual(len(listed_paths(fewer.target, 4)), 600)
        self.check_inverse(fewer, inverse(fewer))

    def test_order_of_the_errors(self):
        # not one to one before too many images and not onto
        self.assert_raises(NotOneToOne, {}, inverse, Code(Graph.full(13), double(), 1, [0] * 13))
        self.assert_raises(NotOneToOne, {}, inverse, Code(double(), double(), 1, [0, 0]))
        # too many images before not onto, the width back and the paths of the target
        missing = Code(Graph.full(13), Graph.full(14), 1, list(range(13)))
        self.assert_raises(LimitExceeded, {"limit": 12}, inverse, missing)
        self.assert_raises(LimitExceeded, {"limit": 12}, inverse, ladder(4, 6))
        self.assert_raises(LimitExceeded, {"limit": 12}, inverse, ladder(3, 7))
        # not onto before the width back and the paths of the target
        for levels, loops in ((4, 2), (3, 6)):
            code = ladder(levels, loops)
            more = Graph(2, code.target.edges() + [(1, 1)])
            self.assert_raises(NotOnto, {}, inverse, Code(code.source, more, 1, code.images()))
        # the width back before the paths of the target
        self.assertEqual(len(ladder(4, 5)), 12)
        self.assert_raises(LimitExceeded, {"limit": 4}, inverse, ladder(4, 5))

    def test_code_is_not_changed(self):
        code = ladder(2, 1)
        inverse(code)
        conflict(code)
        self.assertEqual(code, ladder(2, 1))
