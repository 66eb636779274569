from tests.support import KinCase, double, golden, some_chain, sums
from windowkin.codes import Code
from windowkin.errors import InvalidFile
from windowkin.files import dump, load
from windowkin.graphs import Graph
from windowkin.steps import Split
from windowkin.workshop import Workshop

LINES = ["graph gold 2: 0>0 0>1 1>0", "graph two 1: 0>0 0>0", "row a gold 0(1.2)", "row r two 0(1)",
         "code fork two gold 1: 0 0", "code sums two two 2: 0 1 1 0"]


def text_of(lines):
    return "".join(line + "\n" for line in lines)


def stocked():
    """The workshop of the lines above, made by commands in another order."""
    shop = Workshop()
    shop.apply_all([("graph", "two", 1, [(0, 0), (0, 0)]), ("code", "sums", "two", "two", 2, [0, 1, 1, 0]),
                    ("row", "r", "two", ((0, 1), (1, 1))), ("graph", "gold", 2, [(0, 0), (0, 1), (1, 0)]),
                    ("code", "fork", "two", "gold", 1, [0, 0]), ("row", "a", "gold", ((0,), (1, 2)))])
    return shop


class FilesCase(KinCase):
    def assert_refused(self, line, text):
        with self.subTest(text=text):
            self.assert_raises(InvalidFile, {"line": line}, load, text)


class DumpTest(FilesCase):
    def test_example(self):
        shop = load("graph two 1: 0>0 0>0\nrow r two 0(1)\n")
        self.assertEqual([shop.names(), shop.history, dump(shop)],
                         [["r", "two"], (0, 0), "graph two 1: 0>0 0>0\nrow r two 0(1)\n"])

    def test_all_kinds_of_things_in_their_order(self):
        self.assertEqual(dump(stocked()), text_of(LINES))

    def test_empty_workshop(self):
        self.assertEqual(dump(Workshop()), "")

    def test_names_are_ordered_within_a_group(self):
        shop = Workshop()
        shop.apply_all([("graph", name, 1, [(0, 0)]) for name in ("b", "ab", "a", "aa", "z")])
        self.assertEqual([line.split(" ")[1] for line in dump(shop).splitlines()], ["a", "aa", "ab", "b", "z"])

    def test_nothing_is_changed(self):
        shop = stocked()
        shop.apply(("drop", "r", 1))
        shop.undo()
        dump(shop)
        self.assertEqual([shop.history, shop == stocked()], [(1, 1), True])


class LoadTest(FilesCase):
    def test_all_kinds_of_things(self):
        shop = load(text_of(LINES))
        self.assertTrue(shop == stocked())
        self.assertEqual([shop.graph("gold"), shop.graph("two"), shop.row("r"), shop.code("sums"), shop.code("fork")],
                         [golden(), double(), ("two", ((0,), (1,))), ("two", "two", sums()),
                          ("two", "gold", Code(double(), golden(), 1, [0, 0]))])

    def test_empty_text(self):
        shop = load("")
        self.assertTrue(shop == Workshop())
        self.assertEqual([len(shop), shop.history, shop.capacity], [0, (0, 0), 12])

    def test_empty_history_and_greatest_capacity(self):
        shop = stocked()
        shop.capacity = 6
        shop.apply(("drop", "r", 0))
        shop.undo()
        loaded = load(dump(shop))
        self.assertIsInstance(loaded, Workshop)
        self.assertEqual([loaded.history, loaded.capacity, loaded == shop], [(0, 0), 12, True])
        loaded.apply(("remove", "r"))
        loaded.undo()
        self.assertEqual(loaded.history, (0, 1))

    def test_what_is_dumped_is_loaded(self):
        for seed in range(12):
            shop = stocked()
            chain, graphs = some_chain(golden() if seed % 2 else double(), 5, seed)
            for step in chain:
                shop.apply(("step", "gold" if seed % 2 else "two", step))
                text = dump(shop)
                self.assertTrue(load(text) == shop)
                self.assertEqual(dump(load(text)), text)

    def test_12_and_13_things(self):
        lines = [f"graph {letter} 1: 0>0" for letter in "abcdefghijklm"]
        self.assertEqual(len(load(text_of(lines[:12]))), 12)
        self.assert_refused(12, text_of(lines))
        self.assert_refused(12, text_of(lines[:12] + ["row m a (0)", "row m a (0)"]))

    def test_greatest_things(self):
        lines = ["graph big 1:" + " 0>0" * 24, "row r big " + ".".join(str(edge) for edge in range(24)) + "(0)",
                 "code c big big 2:" + " 23" * 576]
        self.assertEqual(dump(load(text_of(lines))), text_of(lines))

    def test_code_that_could_be_narrowed(self):
        text = "graph two 1: 0>0 0>0\ncode c two two 2: 0 0 1 1\n"
        self.assertEqual(dump(load(text)), text)


class InvalidFileTest(FilesCase):
    def test_line_doubled(self):
        for place in range(len(LINES)):
            self.assert_refused(place + 1, text_of(LINES[:place + 1] + LINES[place:]))

    def test_line_removed(self):
        # without a graph, the first row or code that belongs to it is at fault
        self.assert_refused(1, text_of(LINES[1:]))
        self.assert_refused(2, text_of(LINES[:1] + LINES[2:]))
        for place in range(2, len(LINES)):
            self.assertEqual(len(load(text_of(LINES[:place] + LINES[place + 1:]))), 5)

    def test_line_moved(self):
        for place in range(len(LINES) - 1):
            moved = LINES[:place] + [LINES[place + 1], LINES[place]] + LINES[place + 2:]
            # the row a comes ahead of the graph two, to which it does not belong
            self.assert_refused(place + 1, text_of(moved))
        self.assert_refused(0, text_of(LINES[2:] + LINES[:2]))
        self.assert_refused(4, text_of(LINES[:2] + LINES[4:] + LINES[2:4]))

    def test_line_changed(self):
        for place, line in enumerate(LINES):
            for changed in (line + " ", " " + line, line.replace(" ", "  ", 1), line.replace(" ", "", 1), line + "x",
                            line.upper(), line[1:], line[:-1] + "~", line.replace(" ", "\t"), "x" + line, line + " 0>9",
                            line.replace(":", "").replace("(", "")):
                self.assert_refused(place, text_of(LINES[:place] + [changed] + LINES[place + 1:]))

    def test_empty_lines(self):
        self.assert_refused(0, "\n")
        self.assert_refused(0, "\n\n\n")
        self.assert_refused(0, " \n")
        for place in range(len(LINES) + 1):
            self.assert_refused(place, text_of(LINES[:place] + [""] + LINES[place:]))

    def test_no_line_feed_at_the_end(self):
        for count in range(1, len(LINES) + 1):
            self.assert_refused(count - 1, text_of(LINES[:count])[:-1])
        self.assert_refused(6, text_of(LINES) + " ")
        self.assert_refused(0, " ")
        self.assert_refused(0, "x")
        # an earlier line at fault comes first
        self.assert_refused(1, text_of([LINES[0], "x"] + LINES[1:])[:-1])

    def test_name_twice(self):
        self.assert_refused(1, text_of(["graph a 1: 0>0", "graph a 1: 0>0 0>0"]))
        self.assert_refused(1, text_of(["graph a 1: 0>0", "row a a (0)"]))
        self.assert_refused(2, text_of(["graph a 1: 0>0", "row b a (0)", "code b a a 1: 0"]))
        self.assert_refused(1, text_of(["graph a 1: 0>0", "code a a a 1: 0"]))

    def test_names(self):
        for name in ("A", "abcdefg", "", "a1", "1", "a-b"):
            self.assert_refused(0, text_of([f"graph {name} 1: 0>0"]))
            self.assert_refused(1, text_of(["graph a 1: 0>0", f"row {name} a (0)"]))
            self.assert_refused(1, text_of(["graph a 1: 0>0", f"code {name} a a 1: 0"]))

    def test_unknown_graphs(self):
        self.assert_refused(1, text_of(["graph a 1: 0>0", "row b c (0)"]))
        self.assert_refused(2, text_of(["graph a 1: 0>0", "row b a (0)", "row c b (0)"]))
        for owners in ("a x", "x a", "x x", "a b", "b a", "c c"):
            self.assert_refused(2, text_of(["graph a 1: 0>0", "row b a (0)", f"code c {owners} 1: 0"]))

    def test_texts_that_are_refused(self):
        graph = ["graph a 2: 0>0 0>1 1>0"]
        for line in ("graph b 1: 0>1", "graph b 2: 0>0", "graph b 01: 0>0", "graph b", "graph", "graph b ", "row b a",
                     "row b a (3)", "row b a (0.0)", "row b a 0(2)", "row b a 1(1)", "row b a (0) (0)", "row b a ()",
                     "code c a a 1: 0 2 1", "code c a a 1: 0 1", "code c a a 5: 0", "code c a a 1:", "code c a a",
                     "code c a 1: 0 1 2", "code c a a 1: 0 1 2 ", "code c a a 1: 0 1 03", "code c a a 01: 0 1 2",
                     "things b", "lead b c d", "Graph b 1: 0>0", "# graph", "drop b 1", "remove a", "row", "code",
                     "row b"):
            self.assert_refused(1, text_of(graph + [line]))
            self.assert_refused(1, text_of(graph + [line, "graph"]))

    def test_row_of_another_graph(self):
        self.assert_refused(2, text_of(["graph a 1: 0>0 0>0", "graph b 1: 0>0", "row r b (1)"]))
        self.assertEqual(len(load(text_of(["graph a 1: 0>0 0>0", "graph b 1: 0>0", "row r a (1)"]))), 3)

    def test_first_line_at_fault(self):
        self.assert_refused(2, text_of(LINES[:2] + ["x", "y"] + LINES[2:]))


class GeneralRulesTest(FilesCase):
    def test_arguments_by_name(self):
        self.assertEqual(dump(workshop=load(text=text_of(LINES))), text_of(LINES))

    def test_loaded_workshop_goes_on(self):
        shop = load(text_of(LINES))
        shop.apply(("step", "two", Split(0, (1,))))
        other = stocked()
        other.apply(("step", "two", Split(0, (1,))))
        self.assertTrue(shop == other)
        self.assertEqual(shop.graph("two"), Graph(2, [(0, 0), (1, 0), (0, 1), (1, 1)]))
