from itertools import product

from tests.support import (KinCase, double, golden, merges, renamings, ring, rows_of, small_codes, splits, step_graphs,
                           sums)
from windowkin.codes import Code
from windowkin.errors import ParseError
from windowkin.graphs import Graph
from windowkin.rows import normal_row
from windowkin.steps import Merge, Renaming, Split, Step
from windowkin.texts import code_text, graph_text, parse_code, parse_graph, parse_row, parse_step, row_text

HUGE = 10 ** 29
SIGNS = "0123456789>:.,() -+\nasplitmergrenx"


def changes(text):
    """Texts that differ from a text by one character that is removed, doubled, replaced or added."""
    found = []
    for place in range(len(text) + 1):
        found.append(text[:place] + text[place + 1:])
        found.append(text[:place] + text[place:place + 1] + text[place:])
        for sign in SIGNS:
            found.append(text[:place] + sign + text[place + 1:])
            found.append(text[:place] + sign + text[place:])
    return found


class TextCase(KinCase):
    def assert_refused(self, parse, *texts):
        for text in texts:
            with self.subTest(text=text):
                self.assert_raises(ParseError, {}, parse, text)

    def assert_exact(self, parse, write, text):
        """Whatever is accepted near a text is the very text of what it writes."""
        for changed in [text] + changes(text):
            try:
                value = parse(changed)
            except ParseError:
                continue
            self.assertEqual(write(value), changed)


class ExampleTest(KinCase):
    def test_example(self):
        self.assertEqual([graph_text(golden()), row_text(((0, 1), (2, 0, 1))), parse_row("0(1.2)"),
                          parse_step("split 0 1,2") == Split(0, (1, 2))],
                         ["2: 0>0 0>1 1>0", "(0.1.2)", ((0,), (1, 2)), True])


class GraphTextTest(TextCase):
    def test_texts(self):
        self.assertEqual(graph_text(Graph.full(1)), "1: 0>0")
        self.assertEqual(graph_text(Graph(3, [(2, 1), (0, 2), (1, 1), (2, 1)])), "3: 2>1 0>2 1>1 2>1")
        self.assertEqual(graph_text(ring(8, 3))[:20], "8: 0>1 0>1 0>1 1>2 1")

    def test_what_is_written_is_read(self):
        for graph in step_graphs() + [ring(8, 3), Graph.full(24)]:
            self.assertEqual(parse_graph(graph_text(graph)), graph)

    def test_texts_near_a_text(self):
        for text in ("2: 0>0 0>1 1>0", "1: 0>0", "3: 2>1 0>2 1>1"):
            self.assert_exact(parse_graph, graph_text, text)

    def test_wrong_form(self):
        self.assert_refused(parse_graph, "", " ", ":", "2", "2:", "1: ", "1:0>0", "1 : 0>0", "1  0>0", "1 0>0",
                            "1:  0>0", "1: 0>0 ", " 1: 0>0", "1: 0>0\n", "\n1: 0>0", "1: 0>0  0>0", "1: 0>0,0>0",
                            "1: 0>0\n0>0", "1: 0-0", "1: 0>>0", "1: 0>", "1: >0", "1: 0", "1: 0>0>0", "1: (0>0)",
                            "1: 0 > 0", "a: 0>0", "1: a>0", "1:: 0>0", "1: 0>0:", ": 0>0", "1;0>0", "graph 1: 0>0")

    def test_wrong_numbers(self):
        self.assert_refused(parse_graph, "01: 0>0", "1: 00>0", "1: 0>00", "1: +0>0", "1: -0>0", "+1: 0>0", "-1: 0>0",
                            "1: 0>-1", "00001: 0>0", "10000: 0>0", "1: 10000>0", "2: 0>01 1>0", f"{HUGE}: 0>0",
                            "1.0: 0>0", "1_0: 0>0", "0x1: 0>0", "1: 0>0_0")

    def test_refused_by_graph(self):
        self.assert_refused(parse_graph, "0:", "0: 0>0", "1:", "1: 0>1", "1: 1>0", "2: 0>0", "2: 0>1", "9: 0>0",
                            "9999: 0>0", "1: 0>9999", "1: 9999>0", "1:" + " 0>0" * 25,
                            "9:" + "".join(f" {state}>{state}" for state in range(9)))
        self.assertEqual(parse_graph("1:" + " 0>0" * 24), Graph.full(24))


class RowTextTest(TextCase):
    def test_texts(self):
        self.assertEqual(row_text(((0,), (1, 2))), "0(1.2)")
        self.assertEqual(row_text(((), (0,))), "(0)")
        self.assertEqual(row_text(((5, 23, 7), (11, 0))), "5.23.7(11.0)")
        self.assertEqual(row_text(((9999,), (1000, 10))), "9999(1000.10)")

    def test_rows_in_another_form(self):
        self.assertEqual(row_text(((0, 1, 1), (1, 1))), "0(1)")
        self.assertEqual(row_text(((3, 1, 2), (1, 2, 1, 2))), "3(1.2)")
        self.assertEqual(row_text(((2,), (1, 2))), "(2.1)")

    def test_what_is_written_is_read(self):
        for graph in step_graphs():
            for row in rows_of(graph, 2, 2):
                self.assertEqual(parse_row(row_text(row)), normal_row(row))
        for head in product((0, 10, 9999), repeat=2):
            for cycle in product((7, 10, 1234), repeat=3):
                self.assertEqual(parse_row(row_text((head, cycle))), normal_row((head, cycle)))

    def test_longest_rows(self):
        row = (tuple(range(250)), tuple(range(1000, 1250)))
        self.assertEqual(parse_row(row_text(row)), row)
        long_text = "(" + "0." * 4000 + "1)"
        self.assertEqual(row_text(parse_row(long_text)), long_text)
        self.assert_refused(parse_row, "(" + "0." * 9000 + "0)")

    def test_texts_near_a_text(self):
        for text in ("0(1.2)", "(0)", "3.1(20.0)", "(9999.1)"):
            self.assert_exact(parse_row, row_text, text)

    def test_wrong_form(self):
        self.assert_refused(parse_row, "", "()", "0()", "(", ")", "0", "0.1", "(0", "0)", "0(1", "0 (1)", "0(1) ",
                            " 0(1)", "0(1)\n", "\n0(1)", "0( 1)", "0(1 )", ".0(1)", "0.(1)", "0(.1)", "0(1.)",
                            "0..2(1)", "0(1..2)", "0,2(1)", "0(1,2)", "0(1 2)", "((1))", "0((1))", "0(1))", "0(1)(1)",
                            "(1)0", "0[1]", "a(1)", "0(a)", ".(1)", "(.)", "0(1)2")

    def test_wrong_numbers(self):
        self.assert_refused(parse_row, "00(1)", "01(2)", "0(01)", "0(00)", "+0(1)", "-1(2)", "0(-1)", "0(+1)",
                            "10000(1)", "0(10000)", "0(00001)", "1_0(2)", f"{HUGE}(1)")
        self.assertEqual(parse_row("0(9999)"), ((0,), (9999,)))

    def test_text_that_is_not_that_of_a_normal_form(self):
        self.assert_refused(parse_row, "1(1)", "0.1(1)", "(1.1)", "(0.1.0.1)", "0(1.0)", "2.0.1(0.1)", "3(2.3)",
                            "5.6(7.6)", "(1.2.1.2.1.2)")


class CodeTextTest(TextCase):
    def test_texts(self):
        self.assertEqual(code_text(sums()), "2: 0 1 1 0")
        self.assertEqual(code_text(Code.identity(golden())), "1: 0 1 2")
        self.assertEqual(code_text(Code.identity(Graph.full(12))), "1: 0 1 2 3 4 5 6 7 8 9 10 11")

    def test_codes_are_not_narrowed(self):
        self.assertEqual(code_text(Code.identity(double()).widened(2)), "2: 0 0 1 1")

    def test_what_is_written_is_read(self):
        for code in small_codes():
            self.assertEqual(parse_code(code_text(code), code.source, code.target), code)

    def test_texts_near_a_text(self):
        self.assert_exact(lambda text: parse_code(text, double(), double()), code_text, "2: 0 1 1 0")
        self.assert_exact(lambda text: parse_code(text, golden(), golden()), code_text, "1: 0 1 2")

    def test_wrong_form(self):
        self.assert_refused(lambda text: parse_code(text, double(), double()), "", " ", ":", "1", "1:", "1: ", "1:0 1",
                            "1 0 1", "1:  0 1", "1: 0  1", "1: 0 1 ", " 1: 0 1", "1: 0 1\n", "1: 0,1", "1: 0.1",
                            "1: 0>1", "1:: 0 1", "1 : 0 1", "a: 0 1", "1: 0 a", ": 0 1", "1: 0\n1", "code 1: 0 1")

    def test_wrong_numbers(self):
        self.assert_refused(lambda text: parse_code(text, double(), double()), "01: 0 1", "1: 00 1", "1: 0 01",
                            "+1: 0 1", "1: -0 1", "1: +0 1", "1: 0 -1", "10000: 0 1", "1: 0 10000", "1: 0 00001",
                            "-1: 0 1")

    def test_refused_by_code(self):
        self.assert_refused(lambda text: parse_code(text, double(), double()), "0: 0 1", "5: 0 1", "9999: 0 1", "1: 0",
                            "1: 0 1 0", "2: 0 1", "1: 0 2", "1: 9999 0", "3: 0 1 1 0")
        self.assert_refused(lambda text: parse_code(text, golden(), golden()), "1: 0 2 1", "1: 1 1 1")
        self.assert_refused(lambda text: parse_code(text, Graph.full(24), double()), "3: 0 0", "4: 0")

    def test_graphs_by_name(self):
        code = Code(double(), Graph.full(3), 1, [2, 0])
        self.assertEqual(parse_code(text="1: 2 0", source=double(), target=Graph.full(3)), code)
        self.assert_raises(ParseError, {}, parse_code, "1: 2 0", Graph.full(3), double())


class StepTextTest(TextCase):
    def test_texts_of_ordinary_steps(self):
        self.assertEqual(parse_step("split 0 1"), Split(0, (1,)))
        self.assertEqual(parse_step("merge 0 1"), Merge(0, 1))
        self.assertEqual(parse_step("rename 1,0 2,0,1"), Renaming((1, 0), (2, 0, 1)))

    def test_what_is_written_is_read(self):
        for graph in step_graphs():
            for step in splits(graph) + merges(graph) + renamings(graph):
                self.assertEqual(parse_step(step.text()), step)
                self.assertIsInstance(parse_step(step.text()), Step)

    def test_steps_that_no_graph_allows(self):
        for step in (Split(9999, (5, 5, 1000)), Merge(9999, 9999), Merge(3, 1), Merge(0, 0), Renaming((7,), (9999, 0)),
                     Renaming((0, 0), (1, 1)), Split(0, (2, 1))):
            self.assertEqual(parse_step(step.text()), step)

    def test_texts_near_a_text(self):
        for text in ("split 0 1,20", "merge 0 13", "rename 1,0 2,0,1"):
            self.assert_exact(parse_step, lambda step: step.text(), text)

    def test_empty_tuples_negative_and_longer_numbers(self):
        for step in (Split(0, ()), Renaming((), (0,)), Renaming((0,), ()), Renaming((), ()), Split(-1, (0,)),
                     Split(0, (-1,)), Merge(-1, 1), Merge(0, -1), Renaming((-1,), (0,)), Renaming((0,), (0, -2)),
                     Split(10000, (0,)), Split(0, (10000,)), Merge(0, 10000), Merge(HUGE, 0), Renaming((HUGE,), (0,)),
                     Renaming((0,), (0, 10000))):
            self.assert_refused(parse_step, step.text())

    def test_wrong_form(self):
        self.assert_refused(parse_step, "", " ", "split", "split 0", "split 0 ", "split  1", "split 0  1", "split 0 1 ",
                            " split 0 1", "split 0 1\n", "\nsplit 0 1", "split 0 1 2", "split 0,1", "split 0,1 2",
                            "split 0 1,", "split 0 ,1", "split 0 1,,2", "split 0 1, 2", "split 0 1.2", "Split 0 1",
                            "SPLIT 0 1", "divide 0 1", "merge 0", "merge 0,1", "merge 0 1,2", "merge 0 1 2",
                            "merge 0\n1", "merge a b", "rename 0", "rename 0 1 2", "rename 0,1", "rename ,0 0",
                            "rename 0, 0", "rename 0 0,", "rename  ", "rename 0 ", "renaming 0 0", "0 1", "split0 1 2")

    def test_wrong_numbers(self):
        self.assert_refused(parse_step, "split 00 1", "split 0 01", "split 0 00", "split +0 1", "split -0 1",
                            "split 0 +1", "merge 01 2", "merge 0 02", "merge 0 1_0", "rename 00 0", "rename 0 0,01",
                            "merge 0 12345", "merge 00000 1")


class GeneralRulesTest(KinCase):
    def test_arguments_by_name(self):
        self.assertEqual(graph_text(graph=golden()), graph_text(golden()))
        self.assertEqual(row_text(row=((0,), (1,))), "0(1)")
        self.assertEqual(code_text(code=sums()), "2: 0 1 1 0")
        self.assertEqual(parse_graph(text="1: 0>0"), Graph.full(1))
        self.assertEqual(parse_row(text="0(1)"), ((0,), (1,)))
        self.assertEqual(parse_step(text="merge 0 1"), Merge(0, 1))
        self.assertEqual(parse_code(target=double(), source=double(), text="2: 0 1 1 0"), sums())

    def test_kinds_of_parsed_values(self):
        head, cycle = parse_row("0.1(2.3)")
        self.assertIsInstance(parse_row("0.1(2.3)"), tuple)
        self.assertEqual([type(head), type(cycle)], [tuple, tuple])
