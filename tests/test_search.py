from tests.support import KinCase, all_codes, double, from_counts, golden, listed_paths, mixed, ring, sample_graphs
from windowkin.codes import Code, compose
from windowkin.errors import InvalidWidth, LimitExceeded
from windowkin.graphs import Graph
from windowkin.judging import conflict, inverse, unreached
from windowkin.kin import are_kin
from windowkin.search import MAX_MAPS, find_codes
from windowkin.steps import Split

HUGE = 10 ** 29


def searched():
    """Triples of two graphs and a width with few enough lists of images."""
    graphs = sample_graphs() + [double(), mixed(), Graph(2, [(0, 0), (1, 0), (1, 1)]), ring(2, 1), Graph.full(4)]
    return [(one, other, width) for one in graphs for other in graphs for width in (1, 2, 3, 4)
            if len(listed_paths(one, width)) <= 12 and len(other) ** len(listed_paths(one, width)) <= 256]


class FindCodesTest(KinCase):
    def test_example(self):
        self.assertEqual([code.images() for code in find_codes(double(), double())], [[0, 1], [1, 0]])

    def test_all_codes_in_ascending_order_of_their_images(self):
        several = 0
        for one, other, width in searched():
            found = find_codes(one, other, width=width)
            expected = [code for code in all_codes(one, other, width)
                        if conflict(code) is None and unreached(code) is None]
            self.assertEqual(found, expected)
            images = [code.images() for code in found]
            self.assertEqual(images, sorted(images))
            for code in found:
                self.assertEqual([code.source, code.target, code.width], [one, other, width])
                self.assertTrue(are_kin(one, other))
            several += len(found) > 1
        self.assertGreater(several, 15)

    def test_no_code(self):
        self.assertEqual(find_codes(double(), golden()), [])
        self.assertEqual(find_codes(golden(), double(), width=2), [])
        self.assertEqual(find_codes(Graph.full(3), double()), [])
        # there is such a code, but not of the width 1
        large = Split(0, (1,)).result(double())
        self.assertEqual(find_codes(double(), large), [])
        self.assertEqual([code.images() for code in find_codes(double(), large, width=2)], [[0, 2, 1, 3], [3, 1, 2, 0]])

    def test_one_code(self):
        self.assertEqual(find_codes(golden(), golden()), [Code.identity(golden())])
        self.assertEqual(find_codes(Graph.full(1), Graph.full(1)), [Code.identity(Graph.full(1))])

    def test_several_codes(self):
        self.assertEqual([code.images() for code in find_codes(ring(3, 1), ring(3, 1))],
                         [[0, 1, 2], [1, 2, 0], [2, 0, 1]])
        self.assertEqual(len(find_codes(Graph.full(4), Graph.full(4))), 24)
        self.assertEqual(len(find_codes(ring(2, 2), ring(2, 2))), 8)

    def test_code_that_is_only_onto_or_only_one_to_one(self):
        # [0, 0] is neither; the code to three edges is one to one; the one that adds two edges is onto
        self.assertEqual(find_codes(double(), Graph.full(3)), [])
        sums = Code(double(), double(), 2, [0, 1, 1, 0])
        self.assertIsNone(unreached(sums))
        self.assertNotIn(sums, find_codes(double(), double(), width=2))

    def test_wide_codes_that_could_be_narrowed(self):
        self.assertEqual([code.images() for code in find_codes(double(), double(), width=2)],
                         [[0, 0, 1, 1], [1, 1, 0, 0]])
        self.assertEqual([code.images() for code in find_codes(double(), double(), width=3)],
                         [[0] * 4 + [1] * 4, [1] * 4 + [0] * 4])
        for graph in (golden(), double(), ring(3, 1)):
            narrow = find_codes(graph, graph)
            self.assertTrue(all(code.widened(2) in find_codes(graph, graph, width=2) for code in narrow))

    def test_codes_of_width_2(self):
        large = Split(0, (1,)).result(double())
        for code in find_codes(double(), large, width=2):
            self.assertEqual(code.narrowed().width, 2)
            self.assertEqual(compose(code, inverse(code)), Code.identity(double()))
            self.assertIn(inverse(code), find_codes(large, double()))


class CodesToItselfTest(KinCase):
    def test_identity_compose_and_inverse(self):
        for graph in (golden(), double(), Graph.full(4), ring(3, 1), ring(2, 2), mixed(), Graph(2, [(0, 1), (1, 1)]),
                      Graph(2, [(0, 0), (1, 0), (1, 0), (1, 1)])):
            codes = find_codes(graph, graph)
            self.assertIn(Code.identity(graph), codes)
            for code in codes:
                for other in codes:
                    self.assertIn(compose(code, other), codes)
                self.assertIn(inverse(code), codes)


class ErrorsTest(KinCase):
    def test_width(self):
        for width in (0, -1, 5, 6, HUGE, -HUGE):
            self.assert_raises(InvalidWidth, {"number": width}, find_codes, double(), double(), width=width)
        self.assertEqual(len(find_codes(ring(3, 1), ring(3, 1), width=4)), 3)

    def test_600_paths(self):
        # 7 ** 3 is at most 600, and 7 ** 4 is not; with one edge there is only one list of images
        for width, limit in (3, 12), (4, 600):
            self.assert_raises(LimitExceeded, {"limit": limit}, find_codes, Graph.full(7), Graph.full(1), width=width)
        self.assert_raises(LimitExceeded, {"limit": 12}, find_codes, Graph.full(24), Graph.full(1), width=2)
        self.assert_raises(LimitExceeded, {"limit": 600}, find_codes, Graph.full(24), Graph.full(1), width=3)

    def test_4096_maps(self):
        self.assertEqual(MAX_MAPS, 4096)
        # 2 ** 12, 4 ** 6, 8 ** 4 and 16 ** 3 are 4096
        for paths, edges in (12, 2), (6, 4), (4, 8), (3, 16):
            self.assertEqual(find_codes(Graph.full(paths), Graph.full(edges)), [])
            self.assert_raises(LimitExceeded, {"limit": 4096}, find_codes, Graph.full(paths), Graph.full(edges + 1))
            self.assert_raises(LimitExceeded, {"limit": 4096}, find_codes, Graph.full(paths + 1), Graph.full(edges))
        self.assertEqual(len(find_codes(Graph.full(5), Graph.full(5))), 120)
        self.assert_raises(LimitExceeded, {"limit": 4096}, find_codes, Graph.full(6), Graph.full(6))

    def test_lists_count_with_any_edges(self):
        # only a few lists make a code, but all of them count: 3 ** 8 and 3 ** 5
        self.assert_raises(LimitExceeded, {"limit": 4096}, find_codes, golden(), golden(), width=3)
        self.assertEqual(find_codes(golden(), golden(), width=2), [Code.identity(golden()).widened(2)])

    def test_12_paths(self):
        for count in range(2, 13):
            self.assertEqual(find_codes(Graph.full(count), Graph.full(1)), [])
        for count in (13, 24):
            self.assert_raises(LimitExceeded, {"limit": 12}, find_codes, Graph.full(count), Graph.full(1))

    def test_code_that_could_be_narrowed_to_few_images(self):
        # the rows never part, but there are 13 paths
        self.assert_raises(LimitExceeded, {"limit": 12}, find_codes,
                           from_counts([[1, 0, 0], [1, 0, 0], [6, 5, 0]]), Graph.full(1))

    def test_order_of_the_errors(self):
        many = Graph.full(24)
        self.assert_raises(InvalidWidth, {"number": 5}, find_codes, many, many, width=5)
        self.assert_raises(LimitExceeded, {"limit": 600}, find_codes, many, many, width=4)
        self.assert_raises(LimitExceeded, {"limit": 600}, find_codes, many, double(), width=3)
        self.assert_raises(LimitExceeded, {"limit": 4096}, find_codes, many, double(), width=2)
        self.assert_raises(LimitExceeded, {"limit": 4096}, find_codes, many, double())
        self.assert_raises(LimitExceeded, {"limit": 12}, find_codes, many, Graph.full(1))


class GeneralRulesTest(KinCase):
    def test_arguments_by_name_and_defaults(self):
        codes = find_codes(double(), double())
        self.assertEqual(find_codes(one=double(), other=double(), width=1), codes)
        self.assertEqual(find_codes(other=double(), one=double()), codes)
        self.assertEqual(find_codes(double(), double(), width=1), codes)
        self.assertRaises(TypeError, lambda: find_codes(double(), double(), 1))

    def test_lists_are_new(self):
        graph = double()
        codes = find_codes(graph, graph)
        self.assertIsInstance(codes, list)
        codes[0].images().append(5)
        codes.clear()
        self.assertEqual([code.images() for code in find_codes(graph, graph)], [[0, 1], [1, 0]])
