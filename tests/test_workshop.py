from unittest import mock

from tests.support import KinCase, double, golden, ladder, rows_of, some_chain, spread, sums
from windowkin.chains import lead_through
from windowkin.codes import Code, alike, compose
from windowkin.errors import (CapacityExceeded, DuplicateName, EmptyHistory, GraphMismatch, InvalidCapacity,
                              InvalidCode, InvalidCommand, InvalidCount, InvalidGraph, InvalidName, InvalidRow,
                              InvalidStep, InvalidWidth, LimitExceeded, NameInUse, UnknownName)
from windowkin.graphs import Graph
from windowkin.rows import drop, normal_row
from windowkin.steps import Merge, Renaming, Split
from windowkin.workshop import MAX_THINGS, Workshop

HUGE = 10 ** 29
TWO = ("graph", "two", 1, [(0, 0), (0, 0)])
TWIN = ("graph", "twin", 1, [(0, 0), (0, 0)])
GOLD = ("graph", "gold", 2, [(0, 0), (0, 1), (1, 0)])
ROW = ("row", "r", "two", ((0,), (1,)))
SUMS = ("code", "sums", "two", "two", 2, [0, 1, 1, 0])
FORK = ("code", "fork", "two", "gold", 1, [0, 0])
SPLIT = ("step", "two", Split(0, (1,)))


def stocked():
    """A workshop with two graphs, a row and two codes."""
    shop = Workshop()
    shop.apply_all([TWO, GOLD, ROW, SUMS, FORK])
    return shop


def full_shop():
    """A workshop with as many graphs as it can keep."""
    shop = Workshop()
    shop.apply_all([("graph", letter, 1, [(0, 0)]) for letter in "abcdefghijkl"])
    return shop


def told(shop):
    """All that can be asked about the things of a workshop."""
    asked = {"graph": shop.graph, "row": shop.row, "code": shop.code}
    return [(name, shop.kind(name), asked[shop.kind(name)](name)) for name in shop.names()]


class ShopCase(KinCase):
    def assert_refused(self, shop, error, fields, command):
        """A command raises an error, alone and in a batch, and nothing changes."""
        before, history, capacity = told(shop), shop.history, shop.capacity
        self.assert_raises(error, fields, shop.apply, command)
        self.assert_raises(error, fields, shop.apply_all, [command])
        self.assertEqual([told(shop), shop.history, shop.capacity], [before, history, capacity])


class ExamplesTest(ShopCase):
    def test_step(self):
        shop = Workshop()
        shop.apply_all([("graph", "two", 1, ((0, 0), (0, 0))), ("row", "r", "two", ((0,), (1,)))])
        shop.apply(("step", "two", Split(0, (1,))))
        self.assertEqual([shop.names("row"), shop.row("r"), shop.graph("two").states, shop.history, repr(shop)],
                         [["r"], ("two", ((2,), (3,))), 2, (2, 0), "Workshop(2 things)"])

    def test_unknown_name(self):
        self.assert_refused(Workshop(), UnknownName, {"name": "a"}, ("remove", "a"))


class NamesTest(ShopCase):
    def adding(self, name):
        """A command of each kind that adds a thing under a name."""
        return [("graph", name, 1, [(0, 0)]), ("row", name, "two", ((), (1,))),
                ("code", name, "gold", "gold", 1, [0, 1, 2]), ("lead", name, "sums", "r")]

    def test_names_of_1_to_6_letters(self):
        for name in ("a", "z", "abcdef", "zzzzzz", "none", "graph"):
            for command in self.adding(name):
                shop = stocked()
                self.assertIsNone(shop.apply(command))
                self.assertIn(name, shop.names())

    def test_wrong_names(self):
        for name in ("", "abcdefg", "A", "aB", "Two", "a1", "1", "12", "a b", " a", "a ", "a_b", "_", "a-b", "a\n",
                     "\n", "a.b", "abcdefghijklmnop", "A" * 300, "~"):
            for command in self.adding(name):
                self.assert_refused(stocked(), InvalidName, {"name": name}, command)

    def test_duplicate_names(self):
        for name in ("two", "gold", "r", "sums"):
            for command in self.adding(name):
                self.assert_refused(stocked(), DuplicateName, {"name": name}, command)

    def test_full_workshop(self):
        shop = stocked()
        shop.capacity = 5
        for command in self.adding("new"):
            self.assert_refused(shop, CapacityExceeded, {"limit": 5}, command)
        shop.capacity = 2
        for command in self.adding("new"):
            self.assert_refused(shop, CapacityExceeded, {"limit": 2}, command)
        shop.capacity = 6
        for command in self.adding("new"):
            shop.apply(command)
            shop.undo()

    def test_12_things(self):
        shop = full_shop()
        self.assertEqual([len(shop), repr(shop)], [12, "Workshop(12 things)"])
        self.assert_refused(shop, CapacityExceeded, {"limit": 12}, ("graph", "m", 1, [(0, 0)]))
        shop.apply(("remove", "a"))
        shop.apply(("graph", "m", 1, [(0, 0)]))
        self.assertEqual(len(shop), 12)

    def test_order_of_the_first_errors(self):
        shop = stocked()
        shop.capacity = 1
        wrong = [("graph", "{}", 0, []), ("row", "{}", "none", ((), ())), ("code", "{}", "none", "no", 9, []),
                 ("lead", "{}", "none", "no")]
        for command in wrong:
            for name, error, fields in (("A", InvalidName, {"name": "A"}), ("two", DuplicateName, {"name": "two"}),
                                        ("a", CapacityExceeded, {"limit": 1})):
                self.assert_refused(shop, error, fields, (command[0], name) + command[2:])


class GraphCommandTest(ShopCase):
    def test_graph(self):
        shop = Workshop()
        shop.apply(GOLD)
        self.assertEqual([shop.graph("gold"), shop.kind("gold"), len(shop)], [golden(), "graph", 1])

    def test_errors_of_graph(self):
        for states, edges, error, fields in ((0, [], InvalidGraph, {"place": -1}),
                                             (-HUGE, [], InvalidGraph, {"place": -1}),
                                             (9, [], LimitExceeded, {"limit": 8}),
                                             (1, [(0, 0)] * 25, LimitExceeded, {"limit": 24}),
                                             (1, [(0, 0), (0, 1)], InvalidGraph, {"place": 1}),
                                             (2, [(0, 1)], InvalidGraph, {"place": 1})):
            self.assert_refused(stocked(), error, fields, ("graph", "new", states, edges))

    def test_edges_are_copied(self):
        edges = [(0, 0), (0, 1), (1, 0)]
        shop = Workshop()
        shop.apply(("graph", "gold", 2, edges))
        edges.clear()
        self.assertEqual(shop.graph("gold"), golden())


class RowCommandTest(ShopCase):
    def test_row_is_kept_in_normal_form(self):
        shop = stocked()
        shop.apply(("row", "s", "gold", ((0, 1, 2), (0, 1, 2))))
        self.assertEqual([shop.row("s"), shop.kind("s")], [("gold", ((), (0, 1, 2))), "row"])

    def test_errors(self):
        shop = stocked()
        for name in ("none", "r", "sums", "", "Two", "new"):
            self.assert_refused(shop, UnknownName, {"name": name}, ("row", "new", name, ((), ())))
        for row, place in ((((), ()), -1), (((0, 1), ()), -1), (((), (2,)), 0), (((0,), (1, -1)), 2),
                           (((HUGE,), (0,)), 0)):
            self.assert_refused(shop, InvalidRow, {"place": place}, ("row", "new", "two", row))
        self.assert_refused(shop, InvalidRow, {"place": 3}, ("row", "new", "gold", ((1,), (2, 0))))


class CodeCommandTest(ShopCase):
    def test_code(self):
        shop = stocked()
        self.assertEqual(shop.code("sums"), ("two", "two", sums()))
        self.assertEqual(shop.code("fork"), ("two", "gold", Code(double(), golden(), 1, [0, 0])))
        self.assertEqual(shop.kind("sums"), "code")

    def test_code_keeps_its_width(self):
        shop = stocked()
        shop.apply(("code", "wide", "two", "two", 2, [0, 0, 1, 1]))
        self.assertEqual(shop.code("wide")[2].width, 2)

    def test_unknown_graphs(self):
        shop = stocked()
        for name in ("none", "r", "sums", "", "new"):
            self.assert_refused(shop, UnknownName, {"name": name}, ("code", "new", name, "other", 9, []))
            self.assert_refused(shop, UnknownName, {"name": name}, ("code", "new", "two", name, 9, []))

    def test_errors_of_code(self):
        shop = stocked()
        shop.apply(("graph", "big", 1, [(0, 0)] * 24))
        for source, target, width, images, error, fields in (
                ("two", "two", 0, [], InvalidWidth, {"number": 0}), ("two", "two", 5, [], InvalidWidth, {"number": 5}),
                ("two", "two", HUGE, [], InvalidWidth, {"number": HUGE}),
                ("big", "two", 3, [], LimitExceeded, {"limit": 600}),
                ("two", "two", 1, [0], InvalidCode, {"place": -1}),
                ("two", "two", 1, [0, 2], InvalidCode, {"place": 1}),
                ("gold", "gold", 1, [0, 2, 1], InvalidCode, {"place": 0})):
            self.assert_refused(shop, error, fields, ("code", "new", source, target, width, images))

    def test_images_are_copied(self):
        images = [0, 1, 1, 0]
        shop = stocked()
        shop.apply(("code", "new", "two", "two", 2, images))
        images.clear()
        self.assertEqual(shop.code("new")[2], sums())


class LeadCommandTest(ShopCase):
    def test_lead(self):
        shop = stocked()
        shop.apply(("lead", "led", "sums", "r"))
        self.assertEqual(shop.row("led"), ("two", ((1,), (0,))))
        shop.apply(("lead", "other", "fork", "r"))
        self.assertEqual(shop.row("other"), ("gold", ((), (0,))))
        self.assertEqual(shop.row("r"), ("two", ((0,), (1,))))

    def test_unknown_names(self):
        shop = stocked()
        for name in ("none", "two", "r", ""):
            self.assert_refused(shop, UnknownName, {"name": name}, ("lead", "new", name, "no"))
        for name in ("none", "two", "sums", ""):
            self.assert_refused(shop, UnknownName, {"name": name}, ("lead", "new", "sums", name))

    def test_graphs_belong_by_name(self):
        shop = stocked()
        shop.apply_all([TWIN, ("row", "s", "twin", ((0,), (1,)))])
        self.assertEqual(shop.graph("two"), shop.graph("twin"))
        self.assert_refused(shop, GraphMismatch, {}, ("lead", "new", "sums", "s"))
        shop.apply(("row", "t", "gold", ((), (0,))))
        self.assert_refused(shop, GraphMismatch, {}, ("lead", "new", "fork", "t"))


class DropCommandTest(ShopCase):
    def test_drop(self):
        shop = Workshop()
        shop.apply_all([GOLD, ("row", "r", "gold", ((0, 0), (0, 1, 2)))])
        row = ((0, 0), (0, 1, 2))
        for count in (0, 1, 2, 3, 7, 10 ** 9, HUGE, HUGE + 1):
            clone = shop.clone()
            clone.apply(("drop", "r", count))
            self.assertEqual(clone.row("r"), ("gold", drop(row, count=count)))
        shop.apply(("drop", "r", 0))
        self.assertEqual([shop.row("r"), shop.history], [("gold", row), (2, 0)])

    def test_errors(self):
        shop = stocked()
        for name in ("none", "two", "sums", ""):
            self.assert_refused(shop, UnknownName, {"name": name}, ("drop", name, -1))
        for count in (-1, -HUGE):
            self.assert_refused(shop, InvalidCount, {"count": count}, ("drop", "r", count))


class RemoveCommandTest(ShopCase):
    def test_remove(self):
        shop = stocked()
        for name in ("r", "fork", "gold", "sums", "two"):
            shop.apply(("remove", name))
            self.assertNotIn(name, shop.names())
        self.assertEqual([len(shop), shop.history], [0, (6, 0)])

    def test_names_in_use(self):
        shop = stocked()
        self.assert_refused(shop, NameInUse, {"name": "fork"}, ("remove", "gold"))
        self.assert_refused(shop, NameInUse, {"name": "fork"}, ("remove", "two"))
        shop.apply(("remove", "fork"))
        self.assert_refused(shop, NameInUse, {"name": "r"}, ("remove", "two"))
        shop.apply(("row", "b", "two", ((), (0,))))
        self.assert_refused(shop, NameInUse, {"name": "b"}, ("remove", "two"))
        shop.apply_all([("remove", "b"), ("remove", "r")])
        self.assert_refused(shop, NameInUse, {"name": "sums"}, ("remove", "two"))
        shop.apply_all([("remove", "sums"), ("remove", "two"), ("remove", "gold")])
        self.assertEqual(len(shop), 0)

    def test_source_and_target_are_in_use(self):
        shop = Workshop()
        shop.apply_all([TWO, GOLD, FORK])
        for name in ("two", "gold"):
            self.assert_refused(shop, NameInUse, {"name": "fork"}, ("remove", name))

    def test_unknown_names(self):
        for name in ("none", "", "Two", "two "):
            self.assert_refused(stocked(), UnknownName, {"name": name}, ("remove", name))


class StepCommandTest(ShopCase):
    def test_graph_rows_and_codes_follow(self):
        shop = stocked()
        step = Split(0, (1,))
        forward, back = step.forward(double()), step.back(double())
        self.assertIsNone(shop.apply(SPLIT))
        self.assertEqual(shop.graph("two"), step.result(double()))
        self.assertEqual(shop.row("r"), ("two", forward.lead(((0,), (1,)))))
        self.assertEqual(shop.code("sums"), ("two", "two", compose(back, sums(), forward)))
        self.assertEqual(shop.code("fork"), ("two", "gold", compose(back, Code(double(), golden(), 1, [0, 0]))))

    def test_code_to_the_graph(self):
        shop = stocked()
        step = Split(0, (1,))
        shop.apply(("step", "gold", step))
        self.assertEqual(shop.code("fork"),
                         ("two", "gold", compose(Code(double(), golden(), 1, [0, 0]), step.forward(golden()))))
        self.assertEqual([shop.graph("two"), shop.row("r"), shop.code("sums")],
                         [double(), ("two", ((0,), (1,))), ("two", "two", sums())])

    def test_things_of_other_graphs_stay_as_they_are(self):
        shop = Workshop()
        shop.apply_all([TWO, GOLD, TWIN, ("row", "r", "twin", ((0,), (1,))),
                        ("code", "c", "twin", "twin", 2, [0, 0, 1, 1])])
        shop.apply(SPLIT)
        self.assertEqual([shop.graph("twin"), shop.row("r")], [double(), ("twin", ((0,), (1,)))])
        # it could be narrowed, but the step is at another graph
        self.assertEqual(shop.code("c")[2].width, 2)

    def test_graphs_that_are_called_like_kinds(self):
        shop = Workshop()
        shop.apply_all([(("graph", name) + TWO[2:]) for name in ("graph", "row", "code")])
        shop.apply_all([TWO, ROW, ("code", "c", "two", "two", 1, [1, 0])])
        before = [shop.row("r"), shop.code("c"), shop.graph("two")]
        for name in ("row", "code", "graph"):
            shop.apply(("step", name, Split(0, (1,))))
            self.assertEqual([shop.row("r"), shop.code("c"), shop.graph("two")], before)
            shop.apply(("remove", name))
        self.assertEqual(shop.names(), ["c", "r", "two"])

    def test_results_are_narrowed(self):
        shop = Workshop()
        shop.apply_all([TWO, ("code", "c", "two", "two", 2, [0, 0, 1, 1])])
        shop.apply(("step", "two", Renaming((0,), (1, 0))))
        self.assertEqual(shop.code("c")[2], Code.identity(double()))

    def test_several_steps(self):
        for seed in range(6):
            shop = Workshop()
            shop.apply_all([TWO, ("row", "r", "two", ((0,), (1, 1, 0))), ("code", "c", "two", "two", 1, [1, 0])])
            chain, graphs = some_chain(double(), 9, seed)
            for place, step in enumerate(chain):
                shop.apply(("step", "two", step))
                self.assertEqual(shop.graph("two"), graphs[place + 1])
                graph_name, row = shop.row("r")
                self.assertEqual(row, lead_through(double(), chain[:place + 1], ((0,), (1, 1, 0))))
                source, target, code = shop.code("c")
                self.assertEqual([code.source, code.target], [shop.graph("two"), shop.graph("two")])
                self.assertEqual(code, code.narrowed())
                self.assertEqual(code.lead(row), lead_through(double(), chain[:place + 1], ((1,), (0, 0, 1))))

    def test_rows_are_led_alike_by_moved_codes(self):
        shop = stocked()
        shop.apply(SPLIT)
        shop.apply(("step", "two", Merge(0, 1)))
        self.assertEqual(shop.graph("two"), double())
        self.assertTrue(alike(shop.code("sums")[2], sums()))
        self.assertEqual(shop.row("r"), ("two", ((0,), (1,))))

    def test_unknown_graphs(self):
        for name in ("none", "r", "sums", ""):
            self.assert_refused(stocked(), UnknownName, {"name": name}, ("step", name, Merge(5, 5)))

    def test_errors_of_the_step(self):
        shop = stocked()
        for step in (Merge(0, 1), Split(0, ()), Split(0, (0, 1)), Renaming((), ()), Merge(HUGE, -HUGE)):
            self.assert_refused(shop, InvalidStep, {}, ("step", "two", step))
        shop.apply(("graph", "big", 1, [(0, 0)] * 13))
        self.assert_refused(shop, LimitExceeded, {"limit": 24}, ("step", "big", Split(0, (5,))))
        shop.apply(("graph", "many", 8, [(state, 0) for state in range(8)] + [(0, 1)]))
        self.assert_refused(shop, LimitExceeded, {"limit": 8}, ("step", "many", Split(0, (8,))))

    def test_code_that_becomes_too_wide(self):
        # from the graph only, the back code has the width 1, so that the width does not grow
        shop = Workshop()
        shop.apply_all([TWO, TWIN, ("code", "c", "two", "twin", 4, spread(4).images())])
        shop.apply(SPLIT)
        self.assertEqual(shop.code("c")[2], compose(Split(0, (1,)).back(double()), spread(4)))
        # to the graph only, the forward code has the width 2, so that it does
        shop = Workshop()
        shop.apply_all([TWO, TWIN, ("code", "c", "twin", "two", 4, spread(4).images())])
        self.assert_refused(shop, LimitExceeded, {"limit": 4}, SPLIT)

    def test_code_from_a_graph_to_itself(self):
        # behind the back code it can be narrowed to 3, because the new edges tell more, and so the forward code fits
        shop = Workshop()
        shop.apply_all([TWO, ("code", "c", "two", "two", 4, spread(4).images())])
        shop.apply(SPLIT)
        code = shop.code("c")[2]
        self.assertEqual([code.width, code.source, code.target], [4] + [Split(0, (1,)).result(double())] * 2)
        self.assert_refused(shop, LimitExceeded, {"limit": 4}, ("step", "two", Merge(0, 1)))

    def test_code_counts_with_its_own_width_behind_the_back_code(self):
        # as in compose, the first code is narrowed ahead of the others, and the other ones are not
        graph = Split(0, (1,)).result(double())
        shop = Workshop()
        shop.apply_all([("graph", "two", 2, graph.edges()), GOLD])
        wide = Code(graph, golden(), 4, [0] * 32)
        shop.apply(("code", "c", "two", "gold", 4, wide.images()))
        self.assert_refused(shop, LimitExceeded, {"limit": 4}, ("step", "two", Merge(0, 1)))
        shop.apply(("step", "gold", Split(0, (1,))))
        self.assertEqual(shop.code("c")[2].width, 1)

    def test_first_code_in_ascending_order_of_names(self):
        # a composed code of "m" would have more than 600 paths, and the other one would be too wide
        for name, limit in (("l", 4), ("n", 600), ("a", 4), ("mm", 600)):
            shop = Workshop()
            shop.apply_all([("graph", "big", 1, [(0, 0)] * 8), TWO, TWIN,
                            ("code", "m", "big", "two", 3, [0, 1] * 256),
                            ("code", name, "twin", "two", 4, spread(4).images())])
            self.assert_refused(shop, LimitExceeded, {"limit": limit}, SPLIT)

    def test_refused_step_changes_nothing(self):
        shop = Workshop()
        shop.apply_all([TWO, TWIN, ("row", "a", "two", ((0,), (1,))), ("code", "b", "two", "two", 1, [1, 0]),
                        ("code", "c", "twin", "two", 4, spread(4).images()), ("row", "d", "two", ((), (0,)))])
        self.assert_refused(shop, LimitExceeded, {"limit": 4}, SPLIT)
        self.assertEqual([shop.graph("two"), shop.row("a"), shop.code("b")[2].images()],
                         [double(), ("two", ((0,), (1,))), [1, 0]])

    def test_ladder(self):
        # the codes of a whole ladder follow each step of their source
        code = ladder(2, 1)
        shop = Workshop()
        shop.apply_all([("graph", "one", code.source.states, code.source.edges()),
                        ("graph", "other", code.target.states, code.target.edges()),
                        ("code", "c", "one", "other", code.width, code.images())])
        chain, graphs = some_chain(code.source, 5, 1)
        for step in chain:
            shop.apply(("step", "one", step))
        for row in rows_of(code.source, 2, 1):
            moved = lead_through(code.source, chain, row)
            self.assertEqual(shop.code("c")[2].lead(moved), code.lead(normal_row(row)))


class InvalidCommandTest(ShopCase):
    WRONG = [(), ("",), ("two",), ("Graph", "a", 1, [(0, 0)]), ("undo",), ("redo",), ("names",), ("graph",),
             ("graph", "a"), ("graph", "a", 1), ("graph", "a", 1, [(0, 0)], 0), ("row", "a", "two"),
             ("row", "a", "two", ((), (0,)), 0), ("code", "a", "two", "two", 1), ("code", "a", "two", "two", 1, [0], 0),
             ("lead", "a", "sums"), ("lead", "a", "sums", "r", 0), ("drop", "r"), ("drop", "r", 1, 1), ("drop",),
             ("step", "two"), ("step", "two", Split(0, (1,)), 1), ("step",), ("remove",), ("remove", "r", "sums"),
             ("graph ", "a", 1, [(0, 0)]), (1, 2, 3), (None, "a"), (("graph",), "a", 1, []), ([], 2), (golden(), 1)]

    def test_apply(self):
        for command in self.WRONG:
            self.assert_refused(stocked(), InvalidCommand, {"position": 0}, command)

    def test_position_in_a_batch(self):
        shop = stocked()
        good = ("drop", "r", 1)
        for command in self.WRONG:
            for position in range(4):
                batch = [good] * position + [command, good, ()]
                self.assert_raises(InvalidCommand, {"position": position}, shop.apply_all, batch)
        self.assertEqual([told(shop), shop.history], [told(stocked()), (1, 0)])

    def test_all_are_checked_before_the_first_one_is_run(self):
        shop = stocked()
        self.assert_raises(InvalidCommand, {"position": 2}, shop.apply_all,
                           [("remove", "none"), ("graph", "A", 0, []), ("nothing",)])
        self.assertEqual(shop.history, (1, 0))


class BatchTest(ShopCase):
    def test_batch_is_one_entry(self):
        shop = Workshop()
        self.assertIsNone(shop.apply_all([TWO, GOLD, ROW]))
        self.assertEqual([len(shop), shop.history], [3, (1, 0)])
        shop.undo()
        self.assertEqual([len(shop), shop.history], [0, (0, 1)])

    def test_commands_see_those_before(self):
        shop = Workshop()
        shop.apply_all((TWO, ROW, SUMS, ("lead", "s", "sums", "r"), SPLIT, ("drop", "r", 1), ("remove", "sums")))
        self.assertEqual(shop.names(), ["r", "s", "two"])
        self.assertEqual(shop.row("r"), ("two", ((), (3,))))

    def test_later_command_fails(self):
        shop = stocked()
        shop.undo()
        for batch, error, fields in (([TWO, TWO], DuplicateName, {"name": "two"}),
                                     ([TWO, ROW, ("drop", "r", -5)], InvalidCount, {"count": -5}),
                                     ([TWO, ROW, ("remove", "two")], NameInUse, {"name": "r"}),
                                     ([ROW, TWO], UnknownName, {"name": "two"}),
                                     ([TWO, SPLIT, SPLIT, ("step", "two", Merge(1, 0))], InvalidStep, {})):
            self.assert_raises(error, fields, shop.apply_all, batch)
            self.assertEqual([len(shop), shop.history], [0, (0, 1)])

    def test_empty_batch_is_an_entry(self):
        for batch in ([], ()):
            shop = stocked()
            shop.undo()
            shop.apply_all(batch)
            self.assertEqual([len(shop), shop.history], [0, (1, 0)])
            shop.undo()
            self.assertEqual(shop.history, (0, 1))

    def test_capacity_within_a_batch(self):
        shop = Workshop()
        shop.capacity = 2
        self.assert_raises(CapacityExceeded, {"limit": 2}, shop.apply_all, [TWO, GOLD, ROW])
        self.assertEqual(len(shop), 0)
        shop.apply_all([TWO, GOLD, ("remove", "two"), TWO])
        self.assertEqual(shop.names(), ["gold", "two"])

    def test_batch_is_not_changed(self):
        batch = [TWO, ROW]
        Workshop().apply_all(batch)
        self.assertEqual(batch, [TWO, ROW])


class HistoryTest(ShopCase):
    def test_empty_history(self):
        shop = Workshop()
        self.assertEqual(shop.history, (0, 0))
        for move in (shop.undo, shop.redo):
            self.assert_raises(EmptyHistory, {}, move)
        shop.apply(TWO)
        self.assert_raises(EmptyHistory, {}, shop.redo)
        self.assertIsNone(shop.undo())
        self.assert_raises(EmptyHistory, {}, shop.undo)
        self.assertIsNone(shop.redo())
        self.assert_raises(EmptyHistory, {}, shop.redo)
        self.assertEqual([shop.names(), shop.history], [["two"], (1, 0)])

    def test_undo_and_redo_of_everything(self):
        shop = Workshop()
        entries = [[TWO], [GOLD, ROW], [SUMS], [FORK], [SPLIT], [("drop", "r", 1)], [("lead", "s", "sums", "r")], [],
                   [("remove", "fork"), ("remove", "gold")], [("step", "two", Renaming((1, 0), (1, 0, 2, 3)))]]
        states = [told(shop)]
        for entry in entries:
            shop.apply_all(entry)
            states.append(told(shop))
        for turn in range(2):
            for done in range(len(entries), 0, -1):
                self.assertEqual([told(shop), shop.history], [states[done], (done, len(entries) - done)])
                shop.undo()
            for done in range(len(entries)):
                self.assertEqual([told(shop), shop.history], [states[done], (done, len(entries) - done)])
                shop.redo()
        self.assertEqual([told(shop), shop.history], [states[-1], (len(entries), 0)])

    def test_new_entry_takes_away_what_can_be_redone(self):
        for entry in (lambda shop: shop.apply(GOLD), lambda shop: shop.apply_all([]),
                      lambda shop: shop.apply_all([GOLD])):
            shop = Workshop()
            shop.apply(TWO)
            shop.apply(ROW)
            shop.undo()
            entry(shop)
            self.assertEqual(shop.history, (2, 0))
            self.assert_raises(EmptyHistory, {}, shop.redo)

    def test_refused_commands_and_queries_do_not(self):
        shop = stocked()
        shop.apply(("drop", "r", 1))
        shop.undo()
        for command in (TWO, ("remove", "none"), ("nothing",), ("drop", "r", -1), ("step", "two", Merge(0, 1))):
            self.assertRaises((ValueError, LookupError), shop.apply, command)
            self.assertRaises((ValueError, LookupError), shop.apply_all, [("drop", "r", 0), command])
        shop.capacity = 7
        self.assertEqual([len(shop), repr(shop), shop.clone() == shop], [5, "Workshop(5 things)", True])
        told(shop)
        self.assertEqual(shop.history, (1, 1))
        shop.redo()
        self.assertEqual(shop.row("r"), ("two", ((), (1,))))


class CapacityTest(ShopCase):
    def test_capacity_at_first(self):
        self.assertEqual([MAX_THINGS, Workshop().capacity], [12, 12])

    def test_assigned_capacity(self):
        for value in (1, 2, 11, 12):
            shop = Workshop()
            shop.capacity = value
            self.assertEqual(shop.capacity, value)
            shop = Workshop()
            self.assertIsNone(shop.set_capacity(value))
            self.assertEqual(shop.capacity, value)
            shop.set_capacity(value=3)
            self.assertEqual(shop.capacity, 3)

    def test_wrong_capacities(self):
        for value in (0, 13, -1, -12, HUGE, -HUGE):
            shop = Workshop()
            shop.capacity = 5
            self.assert_raises(InvalidCapacity, {"number": value}, setattr, shop, "capacity", value)
            self.assert_raises(InvalidCapacity, {"number": value}, shop.set_capacity, value)
            self.assertEqual(shop.capacity, 5)

    def test_capacity_1(self):
        shop = Workshop()
        shop.capacity = 1
        shop.apply(TWO)
        self.assert_refused(shop, CapacityExceeded, {"limit": 1}, GOLD)

    def test_capacity_below_the_number_of_things(self):
        shop = stocked()
        shop.capacity = 3
        self.assertEqual(len(shop), 5)
        self.assert_refused(shop, CapacityExceeded, {"limit": 3}, ("graph", "new", 1, [(0, 0)]))
        shop.apply(SPLIT)
        shop.apply_all([("drop", "r", 1), ("remove", "fork")])
        self.assert_refused(shop, CapacityExceeded, {"limit": 3}, ("graph", "new", 1, [(0, 0)]))
        shop.apply_all([("remove", "sums"), ("remove", "r"), ("graph", "new", 1, [(0, 0)])])
        self.assertEqual(len(shop), 3)

    def test_undo_and_redo_beyond_the_capacity(self):
        shop = stocked()
        shop.apply(("remove", "r"))
        shop.capacity = 1
        shop.undo()
        self.assertEqual(len(shop), 5)
        shop.undo()
        shop.redo()
        self.assertEqual([len(shop), shop.capacity, shop.history], [5, 1, (1, 1)])

    def test_capacity_is_not_part_of_the_history(self):
        shop = Workshop()
        shop.apply(TWO)
        shop.capacity = 4
        self.assertEqual(shop.history, (1, 0))
        shop.undo()
        self.assertEqual(shop.capacity, 4)
        shop.capacity = 6
        self.assertEqual(shop.history, (0, 1))
        shop.redo()
        self.assertEqual(shop.capacity, 6)


class QueriesTest(ShopCase):
    def test_names(self):
        shop = stocked()
        self.assertEqual(shop.names(), ["fork", "gold", "r", "sums", "two"])
        self.assertEqual(shop.names("graph"), ["gold", "two"])
        self.assertEqual(shop.names("row"), ["r"])
        self.assertEqual(shop.names("code"), ["fork", "sums"])
        self.assertEqual(shop.names("row", "graph"), ["gold", "r", "two"])
        self.assertEqual(shop.names("code", "code"), ["fork", "sums"])
        self.assertEqual(shop.names("code", "row", "graph"), shop.names())
        self.assertEqual([Workshop().names(), Workshop().names("graph", "row")], [[], []])

    def test_unknown_names(self):
        shop = stocked()
        wrong = {shop.kind: [], shop.graph: ["r", "sums"], shop.row: ["two", "sums"], shop.code: ["two", "r"]}
        for query, names in wrong.items():
            for name in names + ["none", "", "Two", "two ", "a b", "x" * 300]:
                self.assert_raises(UnknownName, {"name": name}, query, name)

    def test_kinds(self):
        shop = stocked()
        self.assertEqual([shop.kind(name) for name in shop.names()], ["code", "graph", "row", "code", "graph"])

    def test_kinds_of_values(self):
        shop = stocked()
        self.assertIsInstance(shop.names(), list)
        self.assertEqual([type(value) for value in (shop.graph("two"), shop.row("r"), shop.code("sums"), shop.history)],
                         [Graph, tuple, tuple, tuple])
        self.assertEqual([type(part) for part in shop.code("sums")], [str, str, Code])

    def test_len_and_repr(self):
        shop = Workshop()
        self.assertEqual([len(shop), repr(shop)], [0, "Workshop(0 things)"])
        shop.apply(TWO)
        self.assertEqual([len(shop), repr(shop)], [1, "Workshop(1 things)"])

    def test_arguments_by_name(self):
        shop = Workshop()
        shop.apply(command=TWO)
        shop.apply_all(commands=[ROW, SUMS])
        self.assertEqual([shop.kind(name="r"), shop.graph(name="two"), shop.row(name="r"), shop.code(name="sums")],
                         ["row", double(), ("two", ((0,), (1,))), ("two", "two", sums())])

    def test_lists_are_new(self):
        shop = stocked()
        shop.names().clear()
        shop.graph("two").edges().clear()
        shop.code("sums")[2].images().clear()
        self.assertEqual(told(shop), told(stocked()))


class CloneTest(ShopCase):
    def test_clone_has_the_same_things_history_and_capacity(self):
        shop = stocked()
        shop.apply(SPLIT)
        shop.undo()
        shop.capacity = 7
        clone = shop.clone()
        self.assertIsInstance(clone, Workshop)
        self.assertEqual([told(clone), clone.history, clone.capacity], [told(shop), (1, 1), 7])
        self.assertTrue(clone == shop)
        clone.redo()
        self.assertEqual([clone.graph("two").states, shop.graph("two").states, shop.history], [2, 1, (1, 1)])

    def test_both_are_independent(self):
        shop = stocked()
        clone = shop.clone()
        before = told(shop)
        clone.apply(("drop", "r", 1))
        clone.apply_all([("remove", "fork"), ("remove", "gold")])
        clone.capacity = 3
        self.assertEqual([told(shop), shop.history, shop.capacity], [before, (1, 0), 12])
        changed = told(clone)
        shop.apply(SPLIT)
        shop.undo()
        shop.undo()
        shop.capacity = 9
        self.assertEqual([told(clone), clone.history, clone.capacity], [changed, (3, 0), 3])
        clone.undo()
        clone.undo()
        self.assertEqual(told(clone), before)
        self.assertEqual([len(shop), shop.history], [0, (0, 2)])

    def test_clone_of_an_empty_workshop_and_of_a_clone(self):
        self.assertEqual([len(Workshop().clone()), Workshop().clone().history], [0, (0, 0)])
        shop = stocked()
        clone = shop.clone().clone()
        self.assertEqual(told(clone), told(shop))


class EqualityTest(ShopCase):
    def assert_equal_is(self, expected, one, other):
        self.assertIs(one == other, expected)
        self.assertIs(one != other, not expected)
        self.assertIs(other == one, expected)

    def test_workshops_made_in_different_ways(self):
        shop = Workshop()
        for command in (GOLD, TWO, ("row", "r", "two", ((0, 1), (1, 1))), FORK, SUMS, ("graph", "more", 1, [(0, 0)]),
                        ("remove", "more"), SPLIT):
            shop.apply(command)
        shop.undo()
        shop.capacity = 8
        self.assert_equal_is(True, shop, stocked())
        self.assert_equal_is(True, Workshop(), Workshop())
        self.assert_equal_is(True, shop, shop.clone())

    def test_other_names_and_values(self):
        changed = [[], [TWO], [TWO, GOLD, ROW, SUMS],
                   [TWO, GOLD, ROW, FORK, ("code", "sum", "two", "two", 2, [0, 1, 1, 0])],
                   [TWO, GOLD, ("row", "r", "two", ((1,), (0,))), SUMS, FORK],
                   [TWO, GOLD, ROW, ("code", "sums", "two", "two", 2, [0, 1, 1, 1]), FORK],
                   [TWO, GOLD, ROW, ("code", "sums", "two", "two", 3, [0, 0, 1, 1, 1, 1, 0, 0]), FORK],
                   [TWO, ("graph", "gold", 2, [(0, 0), (1, 0), (0, 1)]), ROW, SUMS, FORK]]
        for commands in changed:
            shop = Workshop()
            shop.apply_all(commands)
            self.assert_equal_is(False, shop, stocked())

    def test_names_of_graphs_belong_to_rows_and_codes(self):
        batches = [[TWO, TWIN, ("row", "r", name, ((), (0,)))] for name in ("two", "twin")]
        batches += [[TWO, TWIN, ("code", "r", one, other, 1, [0, 1])]
                    for one in ("two", "twin") for other in ("two", "twin")]
        for place, batch in enumerate(batches):
            for other_place, other_batch in enumerate(batches):
                one, other = Workshop(), Workshop()
                one.apply_all(batch)
                other.apply_all(other_batch)
                self.assert_equal_is(place == other_place, one, other)

    def test_other_values(self):
        for shop in (Workshop(), stocked()):
            for other in (None, 0, False, "", "Workshop(0 things)", [], {}, (), golden(), Workshop, object()):
                self.assert_equal_is(False, shop, other)
            self.assertFalse(shop == mock.ANY)
