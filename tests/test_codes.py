from itertools import product
from unittest import mock

from tests.support import (KinCase, all_codes, double, from_counts, golden, listed_paths, ring, rows_of,
                           sample_graphs, small_codes, spread, sums, written)
from windowkin.codes import Code, alike, compose
from windowkin.errors import GraphMismatch, InvalidCode, InvalidPath, InvalidRow, InvalidWidth, LimitExceeded
from windowkin.graphs import Graph
from windowkin.rows import normal_row

HUGE = 10 ** 29


def three_600():
    """A graph with 600 paths of length 3."""
    return from_counts([[6, 4], [1, 2]])


def three_601():
    return from_counts([[5, 2], [6, 0]])


def four_600():
    return from_counts([[2, 1, 0], [0, 3, 1], [1, 2, 1]])


def four_601():
    return from_counts([[0, 1, 1], [0, 3, 3], [2, 0, 1]])


def constant(graph, width):
    """The code that leads every path to the only edge of a graph."""
    return Code(graph, Graph.full(1), width, [0] * len(listed_paths(graph, width)))


def expected_fault(source, target, width, images):
    """The place that InvalidCode names by the words of the document, or None."""
    windows = listed_paths(source, width)
    if len(images) != len(windows):
        return -1
    for place, image in enumerate(images):
        if image not in range(len(target)):
            return place
    image_of = dict(zip(windows, images))
    wrong = [path[:-1] for path in listed_paths(source, width + 1)
             if target.edges()[image_of[path[1:]]][0] != target.edges()[image_of[path[:-1]]][1]]
    return windows.index(min(wrong)) if wrong else None


class CodeErrorsTest(KinCase):
    def test_example(self):
        self.assert_raises(InvalidCode, {"place": 0}, Code, golden(), golden(), 1, [0, 2, 1])

    def test_class_values(self):
        self.assertEqual((Code.MAX_WIDTH, Code.MAX_PATHS), (4, 600))
        self.assertEqual((sums().MAX_WIDTH, sums().MAX_PATHS), (4, 600))

    def test_widths_out_of_range(self):
        for width in (0, -1, -4, 5, 6, HUGE, -HUGE):
            for images in ([], [0], [0, 0], [9, -1]):
                self.assert_raises(InvalidWidth, {"number": width}, Code, double(), double(), width, images)

    def test_widths_from_1_to_4(self):
        for width in range(1, 5):
            code = Code(double(), double(), width, [0] * 2 ** width)
            self.assertEqual([code.width, len(code)], [width, 2 ** width])

    def test_600_paths_are_allowed(self):
        for graph, width in ((three_600(), 3), (four_600(), 4)):
            self.assertEqual(len(listed_paths(graph, width)), 600)
            # a returned list may be passed, whatever its length
            images = constant(graph, 1).widened(width).images()
            self.assertEqual(len(Code(graph, Graph.full(1), width, images)), 600)

    def test_601_paths_are_too_many(self):
        for graph, width in ((three_601(), 3), (four_601(), 4)):
            self.assertEqual(len(listed_paths(graph, width)), 601)
            for images in ([0] * 601, [0] * 600, [], [5, -1]):
                self.assert_raises(LimitExceeded, {"limit": 600}, Code, graph, Graph.full(1), width, images)

    def test_very_many_paths(self):
        self.assert_raises(LimitExceeded, {"limit": 600}, Code, Graph.full(24), double(), 4, [0])
        self.assert_raises(LimitExceeded, {"limit": 600}, Code, Graph.full(24), double(), 3, [0])
        self.assertEqual(len(constant(Graph.full(24), 2)), 576)

    def test_too_few_and_too_many_images(self):
        for count in (0, 1, 3, 5, 8, 250):
            self.assert_raises(InvalidCode, {"place": -1}, Code, double(), double(), 2, [0] * count)
            self.assert_raises(InvalidCode, {"place": -1}, Code, double(), double(), 2, (7,) * count)
        for count in (0, 2, 4, 6):
            self.assert_raises(InvalidCode, {"place": -1}, Code, golden(), golden(), 1, [0] * count)

    def test_images_that_are_no_edges(self):
        for wrong in (2, 3, -1, -2, HUGE, -HUGE):
            for place in range(4):
                images = [0] * 4
                images[place] = wrong
                self.assert_raises(InvalidCode, {"place": place}, Code, double(), double(), 2, images)

    def test_edges_are_those_of_the_target(self):
        self.assertEqual(Code(double(), Graph.full(3), 1, [2, 1]).images(), [2, 1])
        self.assert_raises(InvalidCode, {"place": 2}, Code, Graph.full(3), double(), 1, [0, 1, 2])

    def test_first_wrong_image_is_named(self):
        self.assert_raises(InvalidCode, {"place": 1}, Code, double(), double(), 2, [0, -1, 2, 9])
        self.assert_raises(InvalidCode, {"place": 0}, Code, double(), double(), 2, [2, -1, 0, 0])

    def test_first_path_whose_image_is_not_followed(self):
        # the paths are (0, 0), (0, 1), (1, 2), (2, 0), (2, 1)
        self.assertEqual(Code(golden(), golden(), 2, [0, 1, 2, 0, 1]).images(), [0, 1, 2, 0, 1])
        self.assert_raises(InvalidCode, {"place": 0}, Code, golden(), golden(), 2, [1, 1, 2, 0, 1])
        self.assert_raises(InvalidCode, {"place": 1}, Code, golden(), golden(), 2, [0, 0, 2, 0, 1])
        self.assert_raises(InvalidCode, {"place": 2}, Code, golden(), golden(), 2, [0, 1, 2, 0, 2])
        self.assert_raises(InvalidCode, {"place": 1}, Code, golden(), golden(), 1, [0, 0, 2])

    def test_last_path_can_be_the_first_one_at_fault(self):
        graph = Graph(2, [(1, 1), (0, 1)])
        target = Graph(2, [(0, 0), (1, 0)])
        self.assertEqual(Code(graph, target, 1, [0, 1]).images(), [0, 1])
        self.assert_raises(InvalidCode, {"place": 0}, Code, graph, target, 1, [1, 0])
        away = Graph(2, [(0, 0), (1, 1)])
        self.assert_raises(InvalidCode, {"place": 1}, Code, graph, away, 1, [0, 1])

    def test_all_lists_of_images(self):
        for source, target, width in ((golden(), golden(), 1), (golden(), golden(), 2), (ring(2, 1), golden(), 3),
                                      (Graph(2, [(0, 1), (1, 1)]), golden(), 2), (golden(), ring(3, 1), 1),
                                      (Graph(2, [(1, 0), (0, 0), (1, 1)]), Graph(2, [(1, 0), (0, 0), (1, 1)]), 2)):
            for images in product(range(len(target)), repeat=len(listed_paths(source, width))):
                place = expected_fault(source, target, width, images)
                if place is None:
                    self.assertEqual(Code(source, target, width, images).images(), list(images))
                else:
                    self.assert_raises(InvalidCode, {"place": place}, Code, source, target, width, images)

    def test_order_of_the_errors(self):
        # the width before the number of paths, of images and what they are
        self.assert_raises(InvalidWidth, {"number": 5}, Code, Graph.full(24), golden(), 5, [9, -1])
        self.assert_raises(InvalidWidth, {"number": 0}, Code, Graph.full(24), golden(), 0, [])
        # the number of paths before the number of images
        self.assert_raises(LimitExceeded, {"limit": 600}, Code, Graph.full(24), golden(), 4, [9, -1])
        # the number of images before what they are
        self.assert_raises(InvalidCode, {"place": -1}, Code, golden(), golden(), 1, [0, 9])
        # an image that is no edge before a path at fault, wherever both stand
        self.assert_raises(InvalidCode, {"place": 2}, Code, golden(), golden(), 1, [1, 1, 3])
        self.assert_raises(InvalidCode, {"place": 1}, Code, golden(), golden(), 1, [1, -1, 0])


class CodeValuesTest(KinCase):
    def test_parts(self):
        code = Code(golden(), double(), 2, [0, 1, 1, 0, 1])
        self.assertEqual([code.source, code.target], [golden(), double()])
        self.assertEqual([code.width, code.images()], [2, [0, 1, 1, 0, 1]])

    def test_len_and_repr(self):
        self.assertEqual([len(sums()), repr(sums())], [4, "Code(width 2, 4 images)"])
        self.assertEqual(repr(Code.identity(Graph.full(1))), "Code(width 1, 1 images)")
        self.assertEqual(repr(constant(Graph.full(24), 2)), "Code(width 2, 576 images)")

    def test_lists_and_tuples_may_be_passed(self):
        self.assertEqual(Code(double(), double(), 2, (0, 1, 1, 0)), sums())
        self.assertEqual(Code(double(), double(), 2, (0, 1, 1, 0)).images(), [0, 1, 1, 0])

    def test_arguments_by_name(self):
        self.assertEqual(Code(source=double(), target=double(), width=2, images=[0, 1, 1, 0]), sums())

    def test_argument_is_copied_and_not_changed(self):
        images = [0, 1, 1, 0]
        code = Code(double(), double(), 2, images)
        self.assertEqual(images, [0, 1, 1, 0])
        images[0] = 1
        images.append(5)
        self.assertEqual([code.images(), len(code), code.lead_path((0, 0))], [[0, 1, 1, 0], 4, (0,)])
        self.assertEqual(code, sums())

    def test_returned_list_is_new(self):
        code = sums()
        code.images().clear()
        changed = code.images()
        changed[0] = 1
        self.assertEqual([code.images(), code.lead_path((0, 0))], [[0, 1, 1, 0], (0,)])
        self.assertIsInstance(code.images(), list)

    def test_parts_cannot_be_assigned(self):
        code = sums()
        for name in ("source", "target", "width"):
            with self.assertRaises(AttributeError):
                setattr(code, name, 1)
        self.assertEqual(code, sums())

    def test_equal_codes(self):
        self.assertTrue(sums() == sums())
        self.assertFalse(sums() != sums())

    def test_unequal_codes(self):
        # each one differs from the identity in one part: images, target, width, source
        same = Code.identity(double())
        for other in (Code(double(), double(), 1, [1, 0]), Code(double(), Graph.full(3), 1, [0, 1]), same.widened(2),
                      Code(ring(2, 1), double(), 1, [0, 1])):
            self.assertFalse(same == other)
            self.assertTrue(same != other)
            self.assertFalse(other == same)

    def test_alike_codes_need_not_be_equal(self):
        self.assertFalse(Code.identity(double()) == Code.identity(double()).widened(2))

    def test_code_is_not_equal_to_any_other_value(self):
        for other in (None, 0, 2, 4, True, "Code(width 2, 4 images)", [0, 1, 1, 0], (0, 1, 1, 0), double(), {}, Code,
                      object(), mock.ANY):
            self.assertFalse(sums() == other)
            self.assertTrue(sums() != other)

    def test_identity(self):
        for graph in sample_graphs() + [Graph.full(24), ring(8, 3)]:
            code = Code.identity(graph)
            self.assertEqual([code.source, code.target, code.width, code.images()],
                             [graph, graph, 1, list(range(len(graph)))])
        self.assertEqual(Code.identity(golden()).lead(((0, 1), (2, 1))), ((0,), (1, 2)))


class LeadPathTest(KinCase):
    def test_example(self):
        self.assertEqual([sums().lead_path((0, 1, 1, 0)), sums().lead(((0,), (1,))), repr(sums()), sums().width],
                         [(1, 0, 1), ((1,), (0,)), "Code(width 2, 4 images)", 2])

    def test_paths_shorter_than_the_width(self):
        code = spread(4)
        for path in ((), (0,), (1, 1), (0, 1, 0)):
            self.assertEqual(code.lead_path(path), ())
        self.assertEqual(code.lead_path((0, 1, 0, 1)), (1,))
        self.assertEqual(Code.identity(double()).lead_path(()), ())

    def test_all_small_paths(self):
        for code in small_codes()[::7]:
            image_of = dict(zip(listed_paths(code.source, code.width), code.images()))
            for length in range(1, 6):
                for path in listed_paths(code.source, length):
                    parts = [path[at:at + code.width] for at in range(max(0, length - code.width + 1))]
                    self.assertEqual(code.lead_path(path), tuple(image_of[part] for part in parts))

    def test_long_paths(self):
        self.assertEqual(sums().lead_path((0, 1) * 125), (1,) * 249)
        self.assertEqual(sums().lead_path((0, 1) * 3000), (1,) * 5999)

    def test_each_place_that_can_be_wrong(self):
        code = Code.identity(golden()).widened(3)
        path = (0, 1, 2, 1, 2, 0)
        for place in range(6):
            for wrong in (3, -1, -3, HUGE, -HUGE):
                bad = path[:place] + (wrong,) + path[place + 1:]
                self.assert_raises(InvalidPath, {"place": place}, code.lead_path, bad)

    def test_edges_that_do_not_follow(self):
        code = Code.identity(golden())
        for path, place in (((1, 1), 1), ((0, 2), 1), ((0, 1, 0), 2), ((2, 2, 9), 1), ((0, 1, 2, 0, 0, 2, 2), 5)):
            self.assert_raises(InvalidPath, {"place": place}, code.lead_path, path)

    def test_short_paths_are_checked(self):
        code = Code.identity(golden()).widened(4)
        self.assert_raises(InvalidPath, {"place": 0}, code.lead_path, (3,))
        self.assert_raises(InvalidPath, {"place": 1}, code.lead_path, (0, 2))
        self.assert_raises(InvalidPath, {"place": 0}, code.lead_path, (-1, 7))

    def test_edges_are_those_of_the_source(self):
        code = Code(double(), Graph.full(3), 1, [2, 2])
        self.assert_raises(InvalidPath, {"place": 1}, code.lead_path, (1, 2))
        self.assertEqual(Code(Graph.full(3), double(), 1, [0, 0, 1]).lead_path((2, 0)), (1, 0))


class LeadTest(KinCase):
    def test_all_small_rows(self):
        for code in small_codes()[::9]:
            for row in rows_of(code.source, 2, 3):
                led = code.lead(row)
                self.assertEqual(written(led, 20), code.lead_path(written(row, 20 + code.width - 1)))
                self.assertEqual(normal_row(led), led)

    def test_rows_in_other_forms(self):
        code = sums()
        self.assertEqual(code.lead(((0, 1, 1, 1), (1, 1, 1))), ((1,), (0,)))
        self.assertEqual(code.lead(((0, 1), (0, 1, 0, 1))), ((), (1,)))
        self.assertEqual(code.lead(((1,) * 125, (1,) * 125)), ((), (0,)))

    def test_cycle_shorter_than_the_window(self):
        code = Code(double(), Graph.full(16), 4, list(range(16)))
        self.assertEqual(code.lead(((), (1,))), ((), (15,)))
        self.assertEqual(code.lead(((0,), (1,))), ((7,), (15,)))
        self.assertEqual(code.lead(((0, 0), (1, 0))), ((2, ), (5, 10)))

    def test_normal_form_of_the_image(self):
        # the cycle of the image is shorter than the one of the row
        self.assertEqual(sums().lead(((1,), (0, 0, 1, 1))), ((), (1, 0)))
        self.assertEqual(constant(golden(), 2).lead(((0, 1), (2, 0, 1))), ((), (0,)))

    def test_parts_are_tuples(self):
        led = sums().lead(((0,), (1,)))
        self.assertIsInstance(led, tuple)
        self.assertEqual([isinstance(part, tuple) for part in led], [True, True])

    def test_pairs_that_are_no_rows(self):
        code = Code.identity(golden()).widened(2)
        for row, place in ((((), ()), -1), (((9,), ()), -1), (((1,), (2, 0)), 3), (((3,), (0,)), 0), (((0,), (-1,)), 1),
                           (((0, 2), (0,)), 1), (((), (1,)), 1), (((), (HUGE,)), 0), (((0, 1), (2, 2)), 3)):
            self.assert_raises(InvalidRow, {"place": place}, code.lead, row)


class NarrowedTest(KinCase):
    def test_codes_that_cannot_be_narrowed(self):
        for code in [sums()] + [spread(width) for width in (2, 3, 4)] + [Code.identity(golden())]:
            self.assertEqual(code.narrowed(), code)

    def test_codes_that_can_be_narrowed_by_one_and_several_edges(self):
        for code in (Code.identity(golden()), sums(), spread(3), Code(golden(), double(), 2, [0, 1, 1, 1, 0])):
            for width in range(code.width, 5):
                self.assertEqual(code.widened(width).narrowed(), code)

    def test_constant_codes_have_the_width_1(self):
        for width in range(1, 5):
            self.assertEqual(constant(golden(), width).narrowed(), constant(golden(), 1))

    def test_last_edge_that_matters_for_one_path_only(self):
        images = [0] * 16
        images[13] = 1
        code = Code(double(), double(), 4, images)
        self.assertEqual(code.narrowed(), code)

    def test_middle_edge_that_does_not_matter(self):
        # the image depends on the first and the third edge
        code = spread(3)
        self.assertEqual(code.narrowed().width, 3)

    def test_last_edge_that_is_determined(self):
        # in a ring the first edge tells all others, so every code has the width 1
        code = Code(ring(3, 1), double(), 4, [0, 1, 1])
        self.assertEqual(code.narrowed(), Code(ring(3, 1), double(), 1, [0, 1, 1]))

    def test_all_small_codes(self):
        for code in small_codes():
            narrow = code.narrowed()
            self.assertEqual([narrow.source, narrow.target], [code.source, code.target])
            image_of = dict(zip(listed_paths(code.source, code.width), code.images()))
            widths = [width for width in range(1, code.width + 1)
                      if len({(path[:width], image) for path, image in image_of.items()})
                      == len({path[:width] for path in image_of})]
            self.assertEqual(narrow.width, min(widths))
            for path, image in image_of.items():
                self.assertEqual(narrow.lead_path(path)[0], image)

    def test_great_code(self):
        code = constant(four_600(), 1).widened(4)
        self.assertEqual([len(code), len(code.narrowed())], [600, 11])


class WidenedTest(KinCase):
    def test_to_its_own_width(self):
        for code in [Code.identity(golden())] + [spread(width) for width in (2, 3, 4)]:
            self.assertEqual(code.widened(code.width), code)

    def test_to_each_width(self):
        for code in small_codes()[::11]:
            for width in range(code.width, 5):
                wide = code.widened(width)
                self.assertEqual([wide.width, wide.source, wide.target], [width, code.source, code.target])
                self.assertEqual(wide.images(), [code.lead_path(path)[0] for path in listed_paths(code.source, width)])

    def test_widths_out_of_range(self):
        for code in (Code.identity(double()), sums(), spread(3), spread(4)):
            for width in (code.width - 1, 0, -1, 5, HUGE, -HUGE):
                self.assert_raises(InvalidWidth, {"number": width}, code.widened, width)

    def test_narrowed_width_does_not_count(self):
        code = Code.identity(double()).widened(3)
        self.assert_raises(InvalidWidth, {"number": 2}, code.widened, 2)

    def test_600_and_601_paths(self):
        self.assertEqual(len(Code.identity(four_600()).widened(4)), 600)
        self.assert_raises(LimitExceeded, {"limit": 600}, Code.identity(four_601()).widened, 4)
        self.assertEqual(len(Code.identity(three_600()).widened(3)), 600)
        self.assert_raises(LimitExceeded, {"limit": 600}, Code.identity(three_601()).widened, 3)

    def test_width_before_the_number_of_paths(self):
        self.assert_raises(InvalidWidth, {"number": 5}, Code.identity(Graph.full(24)).widened, 5)
        self.assert_raises(LimitExceeded, {"limit": 600}, Code.identity(Graph.full(24)).widened, 4)

    def test_code_is_not_changed(self):
        code = sums()
        code.widened(4)
        code.narrowed()
        self.assertEqual(code, sums())


class ComposeTest(KinCase):
    def test_example(self):
        turned = Code(double(), double(), 1, [1, 0])
        self.assertEqual([compose(turned, turned) == Code.identity(double()), compose(turned, sums()).images(),
                          alike(turned, turned.widened(3))], [True, [0, 1, 1, 0], True])

    def test_one_code_is_narrowed(self):
        self.assertEqual(compose(sums().widened(4)), sums())
        self.assertEqual(compose(sums()), sums())

    def test_first_code_is_applied_first(self):
        joined = Code(Graph.full(3), double(), 1, [0, 1, 1])
        ends = Code(double(), Graph.full(3), 1, [2, 0])
        self.assertEqual(compose(joined, ends), Code(Graph.full(3), Graph.full(3), 1, [2, 0, 0]))
        self.assertEqual(compose(ends, joined), Code(double(), double(), 1, [1, 0]))

    def test_several_codes(self):
        # the sums of neighbours three times: 1, 3, 3, 1 of the four edges
        images = [(a + 3 * b + 3 * c + d) & 1 for a, b, c, d in product(range(2), repeat=4)]
        self.assertEqual(compose(sums(), sums(), sums()), Code(double(), double(), 4, images))
        twice = compose(sums(), sums())
        self.assertEqual(twice, spread(3))

    def test_rows_are_led_one_after_the_other(self):
        codes = [code for code in small_codes()[::5] if code.width < 3]
        for one in codes[::3]:
            for other in codes:
                if one.target == other.source:
                    both = compose(one, other)
                    self.assertEqual([both.source, both.target], [one.source, other.target])
                    self.assertEqual(both.narrowed(), both)
                    for row in rows_of(one.source, 1, 2):
                        self.assertEqual(both.lead(row), other.lead(one.lead(row)))

    def test_identity_changes_nothing(self):
        for code in small_codes()[::13]:
            self.assertEqual(compose(Code.identity(code.source), code), code.narrowed())
            self.assertEqual(compose(code, Code.identity(code.target)), code.narrowed())

    def test_graphs_that_do_not_match(self):
        into = Code(double(), golden(), 1, [0, 0])
        self.assert_raises(GraphMismatch, {}, compose, into, sums())
        self.assert_raises(GraphMismatch, {}, compose, sums(), Code.identity(golden()))
        self.assert_raises(GraphMismatch, {}, compose, sums(), Code.identity(Graph.full(3)), sums())
        # the numbers of the edges would fit, but the graphs are not equal
        self.assert_raises(GraphMismatch, {}, compose, Code.identity(double()), Code.identity(ring(2, 1)))

    def test_equal_graphs_match(self):
        self.assertEqual(compose(Code.identity(Graph(1, ((0, 0), (0, 0)))), sums()), sums())

    def test_widths_that_add_up_to_more_than_4(self):
        self.assertEqual(compose(spread(2), spread(3)).width, 4)
        for codes in ((spread(3), spread(3)), (spread(4), spread(2)), (spread(2), spread(4)), (spread(4), spread(4)),
                      (sums(), sums(), sums(), sums())):
            self.assert_raises(LimitExceeded, {"limit": 4}, compose, *codes)

    def test_code_before_is_narrowed(self):
        wide = Code.identity(double()).widened(4)
        self.assertEqual(compose(wide, spread(4)), spread(4))
        self.assertEqual(compose(sums().widened(4), spread(3)), compose(sums(), spread(3)))
        # what was composed so far is narrowed, too
        self.assertEqual(compose(wide, wide, wide, spread(4)), spread(4))

    def test_other_codes_count_with_their_own_width(self):
        wide = Code.identity(double()).widened(4)
        self.assert_raises(LimitExceeded, {"limit": 4}, compose, sums(), wide)
        self.assert_raises(LimitExceeded, {"limit": 4}, compose, sums(), Code.identity(double()), wide)
        self.assertEqual(compose(sums(), wide.narrowed()), sums())

    def test_paths_of_the_source(self):
        for graph, width in ((four_600(), 4), (three_600(), 3)):
            wide = constant(Graph.full(1), width)
            self.assertEqual(compose(constant(graph, 1), wide), constant(graph, 1))
        for graph, width in ((four_601(), 4), (three_601(), 3)):
            wide = constant(Graph.full(1), width)
            self.assert_raises(LimitExceeded, {"limit": 600}, compose, constant(graph, 1), wide)

    def test_order_of_the_errors(self):
        many = Code.identity(Graph.full(24))
        # the graphs before the width and the number of paths
        self.assert_raises(GraphMismatch, {}, compose, spread(4), Code.identity(golden()).widened(4))
        self.assert_raises(GraphMismatch, {}, compose, many, spread(4))
        # the width before the number of paths
        once = Code(Graph.full(24), double(), 2, [0, 1] * 288)
        self.assert_raises(LimitExceeded, {"limit": 4}, compose, once, spread(4))
        self.assert_raises(LimitExceeded, {"limit": 600}, compose, once, spread(3))
        # code by code
        self.assert_raises(LimitExceeded, {"limit": 4}, compose, spread(4), sums(), Code.identity(golden()))
        self.assert_raises(LimitExceeded, {"limit": 600}, compose, once, sums(), Code.identity(golden()))
        self.assert_raises(GraphMismatch, {}, compose, sums(), Code.identity(golden()), spread(4), spread(4))

    def test_codes_are_not_changed(self):
        one, other = sums().widened(3), spread(2)
        compose(one, other)
        self.assertEqual([one, other], [sums().widened(3), spread(2)])


class AlikeTest(KinCase):
    def test_different_widths(self):
        for width in range(2, 5):
            for other in range(2, 5):
                self.assertIs(alike(sums().widened(width), sums().widened(other)), True)
        self.assertIs(alike(spread(2), spread(3)), False)

    def test_different_images(self):
        self.assertIs(alike(Code(double(), double(), 1, [0, 1]), Code(double(), double(), 1, [1, 0])), False)
        self.assertIs(alike(sums(), Code(double(), double(), 2, [0, 1, 1, 1])), False)

    def test_different_sources(self):
        self.assertIs(alike(Code(double(), double(), 1, [0, 1]), Code(ring(2, 1), double(), 1, [0, 1])), False)

    def test_different_targets(self):
        self.assertIs(alike(Code(double(), double(), 1, [0, 1]), Code(double(), Graph.full(3), 1, [0, 1])), False)

    def test_all_small_codes_of_two_widths(self):
        narrow = all_codes(golden(), golden(), 1)
        wide = all_codes(golden(), golden(), 2)
        rows = rows_of(golden(), 1, 3)
        for one in narrow + wide:
            for other in wide:
                same = all(one.lead(row) == other.lead(row) for row in rows)
                self.assertIs(alike(one, other), same)
                self.assertIs(alike(other, one), same)
