from tests.support import KinCase, double, golden, some_chain, spread
from windowkin.console import Console
from windowkin.files import dump, load
from windowkin.graphs import Graph
from windowkin.paths import count_closed
from windowkin.steps import Split
from windowkin.workshop import Workshop

TEXT = """graph gold 2: 0>0 0>1 1>0
graph two 1: 0>0 0>0
row r two 0(1)
code sums two two 2: 0 1 1 0
"""


def stocked():
    return Console(load(TEXT))


class ConsoleCase(KinCase):
    def assert_answers(self, pairs):
        """Runs lines, each on a new console, and compares the answers."""
        for line, answer in pairs:
            with self.subTest(line=line):
                self.assertEqual(stocked().run(line), answer)

    def assert_unchanged(self, lines, answer):
        """The lines have one answer and change nothing."""
        for line in lines:
            with self.subTest(line=line):
                shop = load(TEXT)
                shop.apply(("drop", "r", 0))
                shop.undo()
                self.assertEqual(Console(shop).run(line), answer)
                self.assertEqual([dump(shop), shop.history], [TEXT, (0, 1)])


class ExampleTest(ConsoleCase):
    def test_example(self):
        console = Console(load("graph two 1: 0>0 0>0\nrow r two 0(1)\n"))
        answers = [console.run("step two split 0 1"), console.run("show r"), console.run("closed two 3"),
                   console.run("kin two r")]
        self.assertEqual(answers, ["ok", "2(3)", "8", "error unknownname"])


class ChangesTest(ConsoleCase):
    def test_drop(self):
        shop = load(TEXT)
        console = Console(shop)
        self.assertEqual(console.run("drop r 0"), "ok")
        self.assertEqual([shop.row("r"), shop.history], [("two", ((0,), (1,))), (1, 0)])
        self.assertEqual(console.run("drop r 1"), "ok")
        self.assertEqual([shop.row("r"), shop.history], [("two", ((), (1,))), (2, 0)])

    def test_counts(self):
        shop = load("graph a 3: 0>1 1>2 2>0\nrow r a (0.1.2)\n")
        for count, row in (("5", "(2.0.1)"), ("9", "(0.1.2)"), ("999999999", "(0.1.2)"), ("100000000", "(1.2.0)"),
                           ("123456789", "(0.1.2)"), ("10", "(1.2.0)"), ("0", "(0.1.2)")):
            console = Console(shop.clone())
            self.assertEqual([console.run(f"drop r {count}"), console.run("show r")], ["ok", row])

    def test_wrong_counts(self):
        self.assert_unchanged([f"drop r {count}" for count in (
            "1000000000", "0000000001", "01", "00", "+1", "-1", "-0", "1.0", "a", "1a", "1\n", "", " 1", "1_0", "one",
            "9" * 30, "0x1")], "invalid")
        self.assert_unchanged(["drop none 01", "drop none -1", "drop two 1000000000"], "invalid")

    def test_step(self):
        shop = load(TEXT)
        console = Console(shop)
        for line in ("step two split 0 1", "step two rename 1,0 1,0,3,2", "step two merge 0 1", "step gold split 0 0",
                     "step gold rename 0,1,2 0,1,2,3,4"):
            self.assertEqual(console.run(line), "ok")
        self.assertEqual([shop.graph("two").states, shop.graph("gold").states, shop.history], [1, 3, (5, 0)])

    def test_step_errors(self):
        self.assert_unchanged(["step two merge 0 1", "step two split 0 0,1", "step two split 9 9",
                               "step gold merge 0 1", "step two rename 0 0", "step two split 9999 1,1,1"],
                              "error invalidstep")
        self.assert_unchanged(["step none split 0 1", "step r split 0 1", "step sums merge 9 9", "step Two merge 0 1"],
                              "error unknownname")

    def test_step_that_is_too_large(self):
        console = Console(load("graph big 1:" + " 0>0" * 13 + "\n"))
        self.assertEqual(console.run("step big split 0 1"), "error limitexceeded")
        shop = load("graph a 1: 0>0 0>0\ngraph b 1: 0>0 0>0\ncode c a b 4: "
                    + " ".join(str(image) for image in spread(4).images()) + "\n")
        self.assertEqual(Console(shop).run("step b split 0 1"), "error limitexceeded")

    def test_texts_of_steps_that_cannot_be_parsed(self):
        self.assert_unchanged(["step two", "step two split", "step two split 0", "step two split 0 1 2",
                               "step two split 0 01", "step two split 0 -1", "step two split 0 ,1",
                               "step two Split 0 1", "step two merge 0 1,2", "step two rename 0",
                               "step two rename 0 0 0", "step two split 0 12345", "step two split 0 1\n", "step",
                               "step split 0 1", "step none split 0 01", "step none", "step two divide 0 1",
                               "step two rename 0 1,,0"],
                              "invalid")

    def test_remove(self):
        shop = load(TEXT)
        console = Console(shop)
        self.assertEqual(console.run("remove two"), "error nameinuse")
        self.assertEqual([console.run(f"remove {name}") for name in ("r", "sums", "two", "gold")], ["ok"] * 4)
        self.assertEqual([len(shop), shop.history, console.run("remove two")], [0, (4, 0), "error unknownname"])

    def test_undo_and_redo(self):
        shop = load(TEXT)
        console = Console(shop)
        self.assertEqual([console.run("undo"), console.run("redo")], ["error emptyhistory"] * 2)
        console.run("drop r 1")
        self.assertEqual([console.run("undo"), dump(shop), shop.history], ["ok", TEXT, (0, 1)])
        self.assertEqual([console.run("undo"), console.run("redo"), console.run("redo")],
                         ["error emptyhistory", "ok", "error emptyhistory"])
        self.assertEqual(shop.row("r"), ("two", ((), (1,))))

    def test_errors_of_names(self):
        self.assert_unchanged(["drop none 1", "drop two 1", "drop sums 1", "drop R 1", "drop ~ 0", "remove none",
                               "remove R", "remove toolong", "remove a.b", "show none", "show R", "show 1", "kin two r",
                               "kin r two", "kin none two", "kin two sums", "kin two none", "closed r 1",
                               "closed none 1", "closed sums 5", "show a\nb"], "error unknownname")


class AnswersTest(ConsoleCase):
    def test_names(self):
        self.assert_answers([("names", "gold r sums two")])
        self.assertEqual(Console(Workshop()).run("names"), "none")
        shop = Workshop()
        shop.apply(("graph", "b", 1, [(0, 0)]))
        self.assertEqual(Console(shop).run("names"), "b")

    def test_show(self):
        self.assert_answers([("show gold", "2: 0>0 0>1 1>0"), ("show two", "1: 0>0 0>0"), ("show r", "0(1)"),
                             ("show sums", "2: 0 1 1 0")])

    def test_kin(self):
        self.assert_answers([("kin two two", "kin"), ("kin gold gold", "kin"), ("kin two gold", "apart"),
                             ("kin gold two", "apart")])
        shop = Workshop()
        chain, graphs = some_chain(golden(), 8, 3)
        shop.apply_all([("graph", "a", 2, golden().edges()), ("graph", "b", graphs[-1].states, graphs[-1].edges())])
        self.assertEqual([Console(shop).run("kin a b"), Console(shop).run("kin b a")], ["kin", "kin"])

    def test_closed(self):
        self.assert_answers([("closed gold 1", "1"), ("closed gold 5", "11"), ("closed two 3", "8"),
                             ("closed two 10", "1024")])
        for length in (1, 2, 7, 40, 41, 999, 1000, 2000):
            self.assert_answers([(f"closed gold {length}", str(count_closed(golden(), length)))])
        big = Console(load("graph big 1:" + " 0>0" * 24 + "\n"))
        self.assertEqual(big.run("closed big 2000"), str(24 ** 2000))

    def test_wrong_lengths(self):
        self.assert_unchanged([f"closed gold {length}" for length in (0, 2001, 2002, 999999999)], "error invalidlength")
        self.assert_unchanged([f"closed gold {length}" for length in (
            "1000000000", "01", "00", "-1", "+1", "a", "1.5", "1\n", "9" * 30)], "invalid")

    def test_unknown_name_comes_first(self):
        self.assert_unchanged([f"closed {name} {length}" for name in ("none", "r", "sums") for length in
                               (0, 1, 2001, 999999999)], "error unknownname")
        self.assert_unchanged(["closed none -1", "closed none 01", "closed none 1000000000"], "invalid")

    def test_questions_change_nothing(self):
        for line in ("names", "show gold", "show r", "show sums", "kin two gold", "closed two 5"):
            shop = load(TEXT)
            shop.apply(("drop", "r", 0))
            shop.undo()
            Console(shop).run(line)
            self.assertEqual([dump(shop), shop.history], [TEXT, (0, 1)])


class InvalidLinesTest(ConsoleCase):
    GOOD = ["drop r 1", "step two split 0 1", "remove r", "undo", "redo", "names", "show r", "kin two two",
            "closed two 3"]

    def test_spaces(self):
        for line in self.GOOD:
            self.assert_unchanged([" " + line, line + " ", line + "  ", "  " + line, "\n" + line], "invalid")
            if " " in line:
                self.assert_unchanged([line.replace(" ", "  "), line.replace(" ", "  ", 1), line.replace(" ", "\n")],
                                      "invalid")
        self.assert_unchanged(["", " ", "   ", "\n"], "invalid")

    def test_empty_words(self):
        self.assert_unchanged(["remove ", "show ", "kin two ", "kin  two", "kin  ", "drop  1", "closed  3",
                               "step  split 0 1", "closed  0"], "invalid")

    def test_line_feeds_are_part_of_words(self):
        self.assert_unchanged(["drop r 1\n", "step two split 0 1\n", "undo\n", "redo\n", "names\n", "closed two 3\n"],
                              "invalid")
        self.assert_unchanged(["remove r\n", "show r\n", "kin two two\n"], "error unknownname")

    def test_number_of_words(self):
        for line in self.GOOD:
            self.assert_unchanged([line + " x", line + " x y", line + " 1"], "invalid")
        self.assert_unchanged(["drop", "drop r", "step", "step two", "remove", "show", "kin", "kin two", "closed",
                               "closed two"], "invalid")

    def test_other_words(self):
        for line in self.GOOD:
            self.assert_unchanged([line.capitalize(), line.upper(), "x" + line, line.replace("", ".", 1)], "invalid")
        self.assert_unchanged(["ok", "help", "graph a 1: 0>0", "row s two (0)", "code c two two 1: 0 1", "apply",
                               "lead s sums r", "kind r", "none", "invalid", "drop,r,1", "clone", "history"], "invalid")

    def test_good_lines_are_good(self):
        for line in self.GOOD:
            shop = load(TEXT)
            shop.apply(("drop", "r", 0))
            shop.apply(("drop", "r", 0))
            shop.undo()
            self.assertNotIn(Console(shop).run(line).split(" ")[0], ("invalid", "error"))


class LogTest(ConsoleCase):
    def test_log_and_length(self):
        console = stocked()
        self.assertEqual([console.log(), len(console)], [[], 0])
        lines = ["show r", "drop r 1", "nonsense", "", "show none", "undo", "undo", "show r", "show r"]
        answers = [console.run(line) for line in lines]
        self.assertEqual(answers, ["0(1)", "ok", "invalid", "invalid", "error unknownname", "ok", "error emptyhistory",
                                   "0(1)", "0(1)"])
        self.assertEqual(console.log(), list(zip(lines, answers)))
        self.assertEqual(len(console), 9)

    def test_returned_log_is_new(self):
        console = stocked()
        console.run("names")
        log = console.log()
        log.append(("x", "y"))
        log[0] = None
        console.log().clear()
        self.assertEqual([console.log(), len(console)], [[("names", "gold r sums two")], 1])

    def test_log_is_not_undone(self):
        console = stocked()
        for line in ("drop r 1", "undo", "redo"):
            console.run(line)
        self.assertEqual(console.log(), [("drop r 1", "ok"), ("undo", "ok"), ("redo", "ok")])

    def test_kinds_of_values(self):
        console = stocked()
        console.run("names")
        self.assertIsInstance(console.log(), list)
        self.assertIsInstance(console.log()[0], tuple)


class SharedWorkshopTest(ConsoleCase):
    def test_console_works_on_this_very_workshop(self):
        shop = load(TEXT)
        console = Console(workshop=shop)
        self.assertEqual(console.run(line="step two split 0 1"), "ok")
        self.assertEqual(shop.graph("two"), Split(0, (1,)).result(double()))
        shop.apply(("graph", "new", 1, [(0, 0)]))
        self.assertEqual(console.run("show new"), "1: 0>0")

    def test_empty_workshop(self):
        shop = Workshop()
        console = Console(shop)
        shop.apply(("graph", "new", 1, [(0, 0)]))
        self.assertEqual(console.run("names"), "new")

    def test_two_consoles_on_one_workshop(self):
        shop = load(TEXT)
        one, other = Console(shop), Console(shop)
        self.assertEqual([one.run("drop r 1"), other.run("show r"), other.run("undo"), one.run("show r")],
                         ["ok", "(1)", "ok", "0(1)"])
        self.assertEqual([len(one), len(other)], [2, 2])
        self.assertEqual(one.log(), [("drop r 1", "ok"), ("show r", "0(1)")])
        self.assertEqual(other.log(), [("show r", "(1)"), ("undo", "ok")])

    def test_clone_is_another_workshop(self):
        shop = load(TEXT)
        console = Console(shop.clone())
        console.run("remove r")
        self.assertEqual(shop.graph("two"), Graph.full(2))
        self.assertIn("r", shop.names())
