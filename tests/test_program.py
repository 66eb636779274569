"""What holds over the whole program: long runs of a workshop in which everything fits together."""

from random import Random

from tests.support import KinCase, double, golden, merges, some_renaming, splits
from windowkin.chains import chain_result, lead_through
from windowkin.console import Console
from windowkin.errors import Absent, LimitExceeded, WindowError
from windowkin.files import dump, load
from windowkin.kin import are_kin, check_comparison, compare
from windowkin.rows import check_row, normal_row
from windowkin.texts import code_text, graph_text, parse_code, parse_graph, parse_row, parse_step, row_text
from windowkin.workshop import Workshop

START = [("graph", "gold", 2, golden().edges()), ("graph", "two", 1, double().edges()),
         ("graph", "twin", 1, double().edges()), ("row", "g", "gold", ((0, 1), (2, 0, 1))),
         ("row", "r", "two", ((0,), (1, 1, 0))), ("code", "turn", "two", "two", 1, [1, 0]),
         ("code", "sums", "twin", "two", 2, [0, 1, 1, 0]), ("code", "same", "gold", "gold", 1, [0, 1, 2]),
         ("code", "fork", "two", "gold", 1, [0, 0])]


def stocked():
    shop = Workshop()
    shop.apply_all(START)
    return shop


def some_step(graph, dice):
    """A step that may be too much for the graph or for the codes that belong to it."""
    kinds = [steps for steps in (splits(graph), merges(graph), [some_renaming(graph, dice)]) if steps]
    return dice.choice(dice.choice(kinds))


def some_command(shop, dice):
    """A command that the workshop may refuse."""
    word = dice.choice(["step", "step", "step", "lead", "drop", "remove", "row", "graph", "code"])
    name = dice.choice(["a", "b", "c", "d"])
    graph_name = dice.choice(shop.names("graph"))
    graph = shop.graph(graph_name)
    if word == "step":
        return ("step", graph_name, some_step(graph, dice))
    if word == "lead":
        return ("lead", name, dice.choice(shop.names("code") + ["none"]), dice.choice(shop.names("row") + ["none"]))
    if word == "drop":
        return ("drop", dice.choice(shop.names()), dice.randrange(-1, 4))
    if word == "remove":
        return ("remove", dice.choice(["a", "b", "c", "d", graph_name]))
    if word == "row":
        return ("row", name, graph_name, ((), (dice.randrange(len(graph)),)))
    if word == "graph":
        return ("graph", name, graph.states, graph.edges())
    return ("code", name, graph_name, graph_name, 1, list(range(len(graph))))


def told(shop):
    asked = {"graph": shop.graph, "row": shop.row, "code": shop.code}
    return [(name, asked[shop.kind(name)](name)) for name in shop.names()]


class WholeProgramTest(KinCase):
    def check_things(self, shop):
        """Rows and codes belong to the kept graphs, and every text writes its thing."""
        for name in shop.names("row"):
            graph_name, row = shop.row(name)
            self.assertIsNone(check_row(shop.graph(graph_name), row))
            self.assertEqual([normal_row(row), parse_row(row_text(row))], [row, row])
        for name in shop.names("code"):
            source, target, code = shop.code(name)
            self.assertEqual([code.source, code.target], [shop.graph(source), shop.graph(target)])
            self.assertEqual(parse_code(code_text(code), shop.graph(source), shop.graph(target)), code)
        for name in shop.names("graph"):
            self.assertEqual(parse_graph(graph_text(shop.graph(name))), shop.graph(name))
        self.assertTrue(load(dump(shop)) == shop)

    def test_long_runs(self):
        done = 0
        for seed in range(12):
            dice = Random(seed)
            shop = stocked()
            for turn in range(60):
                command = some_command(shop, dice)
                before, history = told(shop), shop.history
                try:
                    shop.apply(command)
                except (WindowError, Absent):
                    self.assertEqual([told(shop), shop.history], [before, history])
                    continue
                done += 1
                self.check_things(shop)
                after = told(shop)
                shop.undo()
                self.assertEqual(told(shop), before)
                shop.redo()
                self.assertEqual(told(shop), after)
        self.assertGreater(done, 250)

    def test_rows_are_led_alike_after_steps(self):
        moved = 0
        for seed in range(20):
            dice = Random(100 + seed)
            shop = stocked()
            chains = {name: [] for name in shop.names("graph")}
            for turn in range(8):
                graph_name = dice.choice(shop.names("graph"))
                step = some_step(shop.graph(graph_name), dice)
                try:
                    shop.apply(("step", graph_name, step))
                except LimitExceeded:
                    continue
                chains[graph_name].append(step)
                moved += 1
                self.check_against(shop, chains)
        self.assertGreater(moved, 100)

    def check_against(self, shop, chains):
        """The things are those of the beginning, led through the chains of their graphs."""
        first = stocked()
        for name in shop.names("graph"):
            self.assertEqual(shop.graph(name), chain_result(first.graph(name), chains[name]))
        for name in shop.names("row"):
            graph_name, row = first.row(name)
            led = lead_through(first.graph(graph_name), chains[graph_name], row)
            self.assertEqual(shop.row(name), (graph_name, led))
        for name in shop.names("code"):
            source, target, code = first.code(name)
            self.assertEqual(shop.code(name)[:2], (source, target))
            for row in (((), (0,)), ((0,), (1, 2)), ((1,), (0,)), ((0, 1), (1, 0))):
                try:
                    expected = lead_through(first.graph(target), chains[target], code.lead(row))
                    led = lead_through(first.graph(source), chains[source], row)
                except WindowError:
                    continue
                self.assertEqual(shop.code(name)[2].lead(led), expected)

    def test_steps_of_a_workshop_keep_graphs_kin(self):
        dice = Random(9)
        shop = Workshop()
        shop.apply_all([("graph", "gold", 2, golden().edges()), ("graph", "old", 2, golden().edges())])
        console = Console(shop)
        for turn in range(30):
            step = some_step(shop.graph("gold"), dice)
            if console.run(f"step gold {step.text()}") == "ok":
                self.assertEqual(parse_step(step.text()), step)
            self.assertEqual([console.run("kin gold old"), console.run("kin old gold")], ["kin", "kin"])
            one, other = shop.graph("gold"), shop.graph("old")
            self.assertTrue(are_kin(one, other))
            self.assertTrue(check_comparison(one, other, compare(one, other)))
            # closed paths are led to closed paths
            for length in (1, 2, 5, 2000):
                self.assertEqual(console.run(f"closed gold {length}"), console.run(f"closed old {length}"))

    def test_console_and_commands_do_the_same(self):
        shop, other = stocked(), stocked()
        console = Console(other)
        dice = Random(4)
        for turn in range(25):
            step = some_step(shop.graph("gold"), dice)
            for command, line in ((("step", "gold", step), f"step gold {step.text()}"),
                                  (("drop", "g", turn), f"drop g {turn}"), (("drop", "none", 1), "drop none 1")):
                try:
                    shop.apply(command)
                    answer = "ok"
                except (WindowError, Absent) as error:
                    answer = f"error {error.word}"
                self.assertEqual(console.run(line), answer)
            self.assertTrue(shop == other)
            self.assertEqual(shop.history, other.history)
