from tests.support import (KinCase, double, golden, ladder, listed_paths, ring, rows_of, small_codes, spread, sums,
                           written)
from windowkin.codes import Code
from windowkin.errors import EndlessOrigins, InvalidRow, LimitExceeded
from windowkin.graphs import Graph
from windowkin.judging import inverse
from windowkin.origins import MAX_LISTED, count_origins, origins
from windowkin.rows import normal_row

HUGE = 10 ** 29


def all_zero():
    return Code(double(), double(), 1, [0, 0])


def forks(*counts):
    """A code from a line of states with so many edges each, and a loop at its end, to a line with one edge each."""
    end = len(counts)
    edges = [(state, state + 1) for state, count in enumerate(counts) for edge in range(count)] + [(end, end)]
    target = Graph(end + 1, [(state, state + 1) for state in range(end)] + [(end, end)])
    return Code(Graph(end + 1, edges), target, 1, [source for source, state in edges])


def one_more(code):
    """The code with another line of states, which has one edge each, beside its source."""
    states = code.source.states
    more = [(source + states, target + states) for source, target in code.target.edges()]
    source = Graph(states + code.target.states, code.source.edges() + more)
    return Code(source, code.target, 1, code.images() + list(range(len(more))))


def waiting():
    """Two loops with one image, then an edge to a last loop: each edge before the last loop can be one of two."""
    source = Graph(2, [(0, 0), (0, 0), (0, 1), (1, 1)])
    return Code(source, Graph(2, [(0, 0), (0, 1), (1, 1)]), 1, [0, 0, 1, 2])


def counted_starts(code, row, length, horizon):
    """The number of paths of a length that begin a path that is led to as many edges of the row as the horizon."""
    image_of = dict(zip(listed_paths(code.source, code.width), code.images()))
    followers = {path: [path[1:] + (edge,) for edge in code.source.leaving(code.source.edge(path[-1])[1])]
                 for path in image_of}
    images = written(row, horizon)
    # the windows that can stand at each place, if the row of the source need only go on to the horizon
    alive = [{path for path in image_of if image_of[path] == images[-1]}]
    for image in reversed(images[:-1]):
        alive.append({path for path in image_of
                      if image_of[path] == image and not alive[-1].isdisjoint(followers[path])})
    alive.reverse()
    numbers = {path: 1 for path in alive[0]}
    for place in range(1, length):
        onward_numbers = {}
        for path, number in numbers.items():
            for onward in followers[path]:
                if onward in alive[place]:
                    onward_numbers[onward] = onward_numbers.get(onward, 0) + number
        numbers = onward_numbers
    return sum(numbers.values())


class CountOriginsTest(KinCase):
    def test_constant(self):
        self.assertEqual(MAX_LISTED, 60)

    def test_example(self):
        self.assertEqual([origins(sums(), ((1,), (0,))), count_origins(all_zero(), ((), (0,))),
                          count_origins(all_zero(), ((), (1,)))], [[((0,), (1,)), ((1,), (0,))], None, 0])

    def test_no_origin(self):
        for row in (((), (1,)), ((0, 0, 1), (0,)), ((0,) * 200 + (1,), (0,))):
            self.assertEqual(count_origins(all_zero(), row), 0)
            self.assertEqual(origins(all_zero(), row), [])

    def test_no_origin_although_each_beginning_has_one(self):
        # a row of the source can stay at 0 as long as it will, but the row of the target does so for ever
        line = Graph(8, [(state, state + 1) for state in range(7)] + [(7, 7)])
        code = Code(line, Graph(2, [(0, 0), (0, 1), (1, 1)]), 1, [0] * 6 + [1, 2])
        self.assertEqual(count_origins(code, ((), (0,))), 0)
        self.assertEqual(count_origins(code, ((0,) * 6 + (1,), (2,))), 1)
        self.assertEqual(count_origins(code, ((0,) * 7 + (1,), (2,))), 0)

    def test_one_origin(self):
        for graph in (golden(), double(), ring(3, 2)):
            for row in rows_of(graph, 2, 2):
                self.assertEqual(count_origins(Code.identity(graph), row), 1)
                self.assertEqual(origins(Code.identity(graph), row), [normal_row(row)])

    def test_codes_with_an_inverse(self):
        for code in [ladder(levels, 1) for levels in range(4)]:
            back = inverse(code)
            for row in rows_of(code.target, 3, 2):
                self.assertEqual(origins(code, row), [back.lead(row)])
            for row in rows_of(code.source, 2, 2):
                self.assertEqual(origins(back, row), [code.lead(row)])

    def test_several_origins(self):
        # the image has as many origins as there are first edges of the row
        for width in (2, 3, 4):
            for row in rows_of(double(), 2, 3):
                self.assertEqual(count_origins(spread(width), row), 2 ** (width - 1))

    def test_60_and_61_origins(self):
        row = ((0, 1, 2), (3,))
        self.assertEqual(count_origins(forks(3, 4, 5), row), 60)
        self.assertEqual(count_origins(one_more(forks(3, 4, 5)), row), 61)

    def test_very_many_origins(self):
        for length in (1, 2, 10, 100, 249, 2000):
            self.assertEqual(count_origins(waiting(), ((0,) * length + (1,), (2,))), 2 ** length)
        self.assertEqual(count_origins(forks(3, 3, 3, 3, 3, 3, 3), (tuple(range(7)), (7,))), 3 ** 7)

    def test_endlessly_many_origins(self):
        self.assertIsNone(count_origins(all_zero(), ((0, 0), (0, 0, 0))))
        self.assertIsNone(count_origins(waiting(), ((), (0,))))
        self.assertIsNone(count_origins(Code(golden(), Graph.full(1), 1, [0, 0, 0]), ((), (0,))))

    def test_endlessly_many_by_leaving_a_cycle_once(self):
        # the row may stay at the first loop as long as it will, and then leave it for ever or not at all
        inlet = Graph(2, [(0, 0), (0, 1), (1, 1)])
        self.assertIsNone(count_origins(Code(inlet, Graph.full(1), 1, [0, 0, 0]), ((), (0,))))
        # here it may leave the first loop at one place only
        self.assertEqual(count_origins(Code(inlet, double(), 1, [0, 1, 0]), ((0, 0, 1), (0,))), 1)

    def test_counts_of_all_small_codes(self):
        seen = set()
        for code in small_codes()[::5]:
            for row in rows_of(code.target, 1, 2):
                few, more = counted_starts(code, row, 40, 160), counted_starts(code, row, 80, 160)
                count = count_origins(code, row)
                self.assertEqual(count, few if few == more else None)
                seen.add(count)
        self.assertTrue({None, 0, 1, 2} <= seen)

    def test_counts_of_all_small_codes_on_great_rows(self):
        for code in small_codes()[::31]:
            for row in rows_of(code.target, 3, 4)[::7]:
                few, more = counted_starts(code, row, 60, 200), counted_starts(code, row, 120, 200)
                self.assertEqual(count_origins(code, row), few if few == more else None)


class OriginsTest(KinCase):
    def check_list(self, code, row):
        """Checks what a list of origins must be, whatever they are; how many they must be is checked above."""
        found = origins(code, row)
        self.assertIsInstance(found, list)
        self.assertEqual(len(found), count_origins(code, row))
        self.assertEqual(found, sorted(set(found)))
        for origin in found:
            self.assertEqual(normal_row(origin), origin)
            self.assertEqual(code.lead(origin), normal_row(row))
        return found

    def test_lists_of_all_small_codes(self):
        for code in small_codes()[::3]:
            for row in rows_of(code.target, 1, 2):
                count = count_origins(code, row)
                if count is None:
                    self.assert_raises(EndlessOrigins, {}, origins, code, row)
                else:
                    self.check_list(code, row)

    def test_all_small_rows_are_found(self):
        for code in small_codes()[::4]:
            led = {}
            for row in rows_of(code.source, 2, 2):
                led.setdefault(code.lead(row), set()).add(normal_row(row))
            for row, found in led.items():
                count = count_origins(code, row)
                if count is not None and count <= 60:
                    self.assertTrue(found <= set(origins(code, row)))

    def test_rows_in_another_form(self):
        for row in (((1,), (0,)), ((1, 0), (0, 0)), ((1, 0, 0, 0), (0,)), ((1,), (0,) * 100)):
            self.assertEqual(origins(sums(), row), [((0,), (1,)), ((1,), (0,))])
            self.assertEqual(count_origins(sums(), row), 2)
        for row in (((), (1,)), ((1, 1, 1), (1, 1)), ((1,), (1,))):
            self.assertEqual(origins(sums(), row), [((), (0, 1)), ((), (1, 0))])

    def test_ascending_order_as_pairs_of_tuples(self):
        # heads are compared first, so a shorter head can come before a row that begins with a lesser edge
        found = self.check_list(forks(2, 3), ((0, 1), (2,)))
        self.assertEqual(found, [((one, two), (5,)) for one in (0, 1) for two in (2, 3, 4)])
        self.assertEqual(self.check_list(spread(3), ((), (0,))),
                         [((), (0,)), ((), (0, 1)), ((), (1,)), ((), (1, 0))])
        self.assertEqual(self.check_list(Code(ring(2, 1), Graph.full(1), 1, [0, 0]), ((), (0,))),
                         [((), (0, 1)), ((), (1, 0))])
        tail = Code(Graph(2, [(0, 1), (1, 1)]), Graph.full(1), 1, [0, 0])
        self.assertEqual(self.check_list(tail, ((), (0,))), [((), (1,)), ((0,), (1,))])

    def test_exactly_60_origins(self):
        found = self.check_list(forks(3, 4, 5), ((0, 1, 2), (3,)))
        self.assertEqual(len(found), 60)
        self.assertEqual([found[0], found[-1]], [((0, 3, 7), (12,)), ((2, 6, 11), (12,))])

    def test_61_origins(self):
        self.assert_raises(LimitExceeded, {"limit": 60}, origins, one_more(forks(3, 4, 5)), ((0, 1, 2), (3,)))

    def test_very_many_origins(self):
        self.assertEqual(len(self.check_list(waiting(), ((0,) * 5 + (1,), (2,)))), 32)
        self.assert_raises(LimitExceeded, {"limit": 60}, origins, waiting(), ((0,) * 6 + (1,), (2,)))
        self.assert_raises(LimitExceeded, {"limit": 60}, origins, waiting(), ((0,) * 249 + (1,), (2,)))

    def test_endlessly_many_origins(self):
        self.assert_raises(EndlessOrigins, {}, origins, all_zero(), ((), (0,)))
        self.assert_raises(EndlessOrigins, {}, origins, waiting(), ((), (0,)))

    def test_long_rows(self):
        row = ((0, 1) * 125, (0, 0, 1, 1, 1) * 50)
        self.assertEqual(len(self.check_list(spread(4), row)), 8)
        code = Code(ring(8, 1), Graph.full(1), 1, [0] * 8)
        self.assertEqual(len(self.check_list(code, ((), (0,)))), 8)

    def test_cycles_of_origins_that_go_round_several_times(self):
        # the sums of these origins have the cycle 1 0 0, theirs is twice as long
        self.assertEqual(self.check_list(sums(), ((), (1, 0, 0))), [((), (0, 1, 1, 1, 0, 0)), ((), (1, 0, 0, 0, 1, 1))])

    def test_wide_codes_that_can_be_narrowed(self):
        self.assertEqual(origins(sums().widened(4), ((1,), (0,))), [((0,), (1,)), ((1,), (0,))])
        self.assertIsNone(count_origins(all_zero().widened(3), ((), (0,))))

    def test_returned_list_is_new(self):
        code = sums()
        origins(code, ((1,), (0,))).clear()
        self.assertEqual(origins(code, ((1,), (0,))), [((0,), (1,)), ((1,), (0,))])
        self.assertEqual(code, sums())

    def test_pairs_that_are_no_rows_of_the_target(self):
        code = Code(double(), golden(), 1, [0, 0])
        endless = Code(golden(), golden(), 1, [0, 0, 0])
        for asked in (count_origins, origins):
            for row, place in ((((), ()), -1), (((0,), ()), -1), (((1,), (2, 0)), 3), (((3,), (0,)), 0),
                               (((0, -1), (0,)), 1), (((0, 2), (0,)), 1), (((), (1,)), 1), (((), (-HUGE,)), 0)):
                self.assert_raises(InvalidRow, {"place": place}, asked, code, row)
                self.assert_raises(InvalidRow, {"place": place}, asked, endless, row)

    def test_rows_of_the_source_are_not_asked_for(self):
        code = Code(Graph.full(3), double(), 1, [0, 1, 1])
        for asked in (count_origins, origins):
            self.assert_raises(InvalidRow, {"place": 0}, asked, code, ((), (2,)))
