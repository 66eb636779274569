from itertools import product

from tests.support import KinCase, golden, sample_graphs, written
from windowkin.errors import InvalidCount, InvalidRow, OutOfRange
from windowkin.graphs import Graph
from windowkin.rows import check_row, drop, edge_at, normal_row, state_at

HUGE = 10 ** 20


def small_rows(edges, head_length, cycle_length):
    """All pairs of a head and a cycle of at most these lengths."""
    return [(head, cycle)
            for head_size in range(head_length + 1) for head in product(edges, repeat=head_size)
            for cycle_size in range(1, cycle_length + 1) for cycle in product(edges, repeat=cycle_size)]


class CheckRowTest(KinCase):
    def test_example(self):
        self.assert_raises(InvalidRow, {"place": 3}, check_row, golden(), ((1,), (2, 0)))

    def test_rows(self):
        for row in (((), (0,)), ((0, 1), (2, 1)), ((2,), (0, 1, 2)), ((1, 2) * 60, (1, 2) * 60), ((0, 1, 2), (0,))):
            self.assertIsNone(check_row(golden(), row))

    def test_empty_cycle(self):
        for head in ((), (0,), (1, 1), (9,)):
            self.assert_raises(InvalidRow, {"place": -1}, check_row, golden(), (head, ()))

    def test_each_place_of_the_head(self):
        head = (0, 1, 2, 0)
        for place in range(4):
            for wrong in (3, -1, -3, HUGE, -HUGE):
                bad = head[:place] + (wrong,) + head[place + 1:]
                self.assert_raises(InvalidRow, {"place": place}, check_row, golden(), (bad, (1, 2)))

    def test_each_place_of_the_cycle(self):
        cycle = (0, 1, 2, 0)
        for place in range(4):
            for wrong in (3, -1, -3, HUGE, -HUGE):
                bad = cycle[:place] + (wrong,) + cycle[place + 1:]
                self.assert_raises(InvalidRow, {"place": place + 2}, check_row, golden(), ((1, 2), bad))

    def test_edge_that_does_not_follow(self):
        self.assert_raises(InvalidRow, {"place": 1}, check_row, golden(), ((0, 2, 0), (0,)))
        self.assert_raises(InvalidRow, {"place": 2}, check_row, golden(), ((0, 1), (0,)))
        self.assert_raises(InvalidRow, {"place": 4}, check_row, golden(), ((0, 1), (2, 1, 1)))

    def test_first_place_is_named(self):
        self.assert_raises(InvalidRow, {"place": 1}, check_row, golden(), ((1, 1, 9), (9, 1)))
        self.assert_raises(InvalidRow, {"place": 0}, check_row, golden(), ((3, 1), (1, 1)))

    def test_cycle_that_does_not_close(self):
        self.assert_raises(InvalidRow, {"place": 1}, check_row, golden(), ((), (1,)))
        self.assert_raises(InvalidRow, {"place": 1}, check_row, golden(), ((), (2,)))
        self.assert_raises(InvalidRow, {"place": 4}, check_row, golden(), ((0, 0), (0, 1)))

    def test_all_small_rows(self):
        for graph in sample_graphs():
            edges = graph.edges()
            for head, cycle in small_rows(range(-1, len(edges) + 1), 1, 2):
                self.check_one(graph, edges, head, cycle)

    def check_one(self, graph, edges, head, cycle):
        """Compares check_row with the words of the document, place by place."""
        around = head + cycle + cycle[:1]
        for place, number in enumerate(around):
            known = 0 <= number < len(edges)
            if not known or place > 0 and edges[around[place - 1]][1] != edges[number][0]:
                self.assert_raises(InvalidRow, {"place": place}, check_row, graph, (head, cycle))
                return
        self.assertIsNone(check_row(graph, (head, cycle)))


class NormalRowTest(KinCase):
    def test_example(self):
        row = ((0, 1, 2), (0, 1, 2))
        self.assertEqual([normal_row(row), edge_at(row, 10 ** 9), drop(row, count=2), state_at(golden(), row, 2)],
                         [((), (0, 1, 2)), 1, ((), (2, 0, 1)), 1])

    def test_rows_in_normal_form(self):
        for row in (((), (0,)), ((1,), (0,)), ((0, 1), (2, 0)), ((5, 5), (5, 6)), ((), (0, 0, 1)), ((), (1, 0, 0))):
            self.assertEqual(normal_row(row), row)

    def test_cycles_that_repeat(self):
        self.assertEqual(normal_row(((), (7, 7, 7, 7))), ((), (7,)))
        self.assertEqual(normal_row(((), (1, 2, 1, 2, 1, 2))), ((), (1, 2)))
        self.assertEqual(normal_row(((9,), (1, 2, 1, 2))), ((9,), (1, 2)))
        self.assertEqual(normal_row(((), (1, 2, 1))), ((), (1, 2, 1)))
        self.assertEqual(normal_row(((), (1, 2, 3, 1, 2))), ((), (1, 2, 3, 1, 2)))

    def test_heads_that_repeat(self):
        self.assertEqual(normal_row(((3, 3, 3), (3,))), ((), (3,)))
        self.assertEqual(normal_row(((2,), (1, 2))), ((), (2, 1)))
        self.assertEqual(normal_row(((1, 2, 1, 2, 1, 2), (1, 2))), ((), (1, 2)))
        self.assertEqual(normal_row(((0, 2, 1, 2), (1, 2))), ((0,), (2, 1)))
        self.assertEqual(normal_row(((2, 3), (1, 2, 3))), ((), (2, 3, 1)))
        self.assertEqual(normal_row(((1, 1, 2), (1, 1))), ((1, 1, 2), (1,)))

    def test_heads_and_cycles_that_repeat(self):
        self.assertEqual(normal_row(((4, 2, 1, 2), (1, 2, 1, 2))), ((4,), (2, 1)))
        self.assertEqual(normal_row(((1, 2) * 60, (1, 2) * 60)), ((), (1, 2)))
        self.assertEqual(normal_row(((5,) * 121, (5,) * 120)), ((), (5,)))

    def test_any_integers(self):
        self.assertEqual(normal_row(((-1, -HUGE), (HUGE, -HUGE))), ((-1,), (-HUGE, HUGE)))

    def test_all_small_rows(self):
        shortest = {}
        rows = sorted(small_rows((0, 1), 4, 4), key=lambda row: (len(row[1]), len(row[0])))
        # heads and cycles of at most 4 edges differ, if at all, in the first 4 + 12 edges
        for row in rows:
            shortest.setdefault(written(row, 20), row)
        for row in rows:
            self.assertEqual(normal_row(row), shortest[written(row, 20)])

    def test_parts_are_tuples(self):
        head, cycle = normal_row(((0, 1, 2), (0, 1, 2)))
        self.assertIsInstance(normal_row(((0,), (1,))), tuple)
        self.assertIsInstance(head, tuple)
        self.assertIsInstance(cycle, tuple)


class PlacesTest(KinCase):
    def test_edges_of_all_small_rows(self):
        for row in small_rows((0, 1, 2), 2, 3):
            self.assertEqual(tuple(edge_at(row, place) for place in range(12)), written(row, 12))

    def test_large_places(self):
        row = ((7, 8), (0, 1, 2))
        # 10 ** 20 leaves 1 when it is divided by 3, and the cycle begins at the place 2
        self.assertEqual([edge_at(row, HUGE + k) for k in range(4)], [2, 0, 1, 2])
        self.assertEqual([edge_at(row, place) for place in range(6)], [7, 8, 0, 1, 2, 0])

    def test_negative_places(self):
        for place in (-1, -2, -HUGE):
            self.assert_raises(OutOfRange, {"number": place}, edge_at, ((0, 1, 2), (0, 1, 2)), place)
            self.assert_raises(OutOfRange, {"number": place}, edge_at, ((), (0,)), place)
            self.assert_raises(OutOfRange, {"number": place}, state_at, golden(), ((), (0,)), place)

    def test_states(self):
        row = ((0, 1), (2, 1))
        self.assertEqual([state_at(golden(), row, place) for place in range(6)], [0, 0, 1, 0, 1, 0])
        self.assertEqual([state_at(golden(), row, HUGE + k) for k in range(2)], [1, 0])

    def test_states_of_a_row_whose_edges_are_not_its_states(self):
        graph = Graph(3, [(2, 0), (0, 1), (1, 2), (1, 0)])
        row = ((0, 1), (3, 1, 2, 0, 1))
        self.assertEqual([state_at(graph, row, place) for place in range(7)], [2, 0, 1, 0, 1, 2, 0])

    def test_state_of_no_row(self):
        self.assert_raises(InvalidRow, {"place": 3}, state_at, golden(), ((1,), (2, 0)), 0)
        self.assert_raises(InvalidRow, {"place": -1}, state_at, golden(), ((0,), ()), 0)
        self.assert_raises(InvalidRow, {"place": 1}, state_at, golden(), ((0,), (9,)), 0)

    def test_row_is_checked_before_the_place(self):
        self.assert_raises(InvalidRow, {"place": 3}, state_at, golden(), ((1,), (2, 0)), -1)
        self.assert_raises(InvalidRow, {"place": -1}, state_at, golden(), ((0,), ()), -1)


class DropTest(KinCase):
    def test_default_count_is_1(self):
        self.assertEqual(drop(((5, 6), (7,))), ((6,), (7,)))
        self.assertEqual(drop(((), (0, 1, 2))), ((), (1, 2, 0)))

    def test_count_is_passed_by_name(self):
        with self.assertRaises(TypeError):
            drop(((5, 6), (7,)), 2)
        self.assertEqual(drop(((5, 6), (7,)), count=2), ((), (7,)))

    def test_count_0_gives_the_normal_form(self):
        self.assertEqual(drop(((1, 2), (1, 2, 1, 2)), count=0), ((), (1, 2)))
        self.assertEqual(drop(((5, 6), (7,)), count=0), ((5, 6), (7,)))

    def test_all_small_rows(self):
        for row in small_rows((0, 1), 3, 3):
            for count in range(9):
                dropped = drop(row, count=count)
                self.assertEqual(written(dropped, 20), written(row, 20 + count)[count:])
                self.assertEqual(normal_row(dropped), dropped)

    def test_large_counts(self):
        self.assertEqual(drop(((7, 8), (0, 1, 2)), count=HUGE), ((), (2, 0, 1)))
        self.assertEqual(drop(((7, 8), (0, 1, 2)), count=HUGE + 1), ((), (0, 1, 2)))
        self.assertEqual(drop(((), (0, 1)), count=HUGE), ((), (0, 1)))

    def test_negative_counts(self):
        for count in (-1, -2, -HUGE):
            self.assert_raises(InvalidCount, {"count": count}, drop, ((5, 6), (7,)), count=count)
