"""Promise 10: what is told of a node by its label."""

import unittest

from tests.asking import GREAT, answer_after, as_bytes, ask, node, program, size, told_node
from tests.test_example import NEW, REV, SUM

ALL_FORMS = ("(fun one ((n x)) n (tick -9 (add (sub x 10) (if x 0 99))))\n"
             "(fun two ((l x) (n yy)) l (share x a b (let z (cons yy a) (case z b h t (call two t (call one h))))))\n"
             "(fun abcd ((l n)) l (if (tick 0 1) nil n))\n")

FORMS_TOLD = [
    (11, "(tick -9 (add (sub x 10) (if x 0 99)))", 0),
    (4, "(add (sub x 10) (if x 0 99))", 0),
    (5, "(sub x 10)", 0),
    (1, "x", 0),
    (0, "10", 0),
    (6, "(if x 0 99)", 0),
    (1, "x", 0),
    (0, "0", 0),
    (0, "99", 0),
    (12, "(share x a b (let z (cons yy a) (case z b h t (call two t (call one h)))))", 1),
    (8, "(let z (cons yy a) (case z b h t (call two t (call one h))))", 1),
    (3, "(cons yy a)", 1),
    (1, "yy", 1),
    (1, "a", 1),
    (7, "(case z b h t (call two t (call one h)))", 1),
    (1, "b", 1),
    (10, "(call two t (call one h))", 1),
    (1, "t", 1),
    (9, "(call one h)", 1),
    (1, "h", 1),
    (6, "(if (tick 0 1) nil n)", 2),
    (11, "(tick 0 1)", 2),
    (0, "1", 2),
    (2, "nil", 2),
    (1, "n", 2),
]


class Nodes(unittest.TestCase):
    def test_each_of_the_thirteen_kinds(self):
        self.assertEqual({sort for sort, _, _ in FORMS_TOLD}, set(range(13)))
        told = ask(program(ALL_FORMS), *[node(label) for label in range(len(FORMS_TOLD))], node(len(FORMS_TOLD)))
        self.assertEqual(told[0], [3, len(FORMS_TOLD)])
        self.assertEqual(told[1:-1], [told_node(*wanted) for wanted in FORMS_TOLD])
        self.assertEqual(told[-1], [-4])

    def test_each_kind_as_a_whole_body(self):
        for sort, expression, result in (
                (0, "0", "n"), (0, "42", "n"), (1, "x", "n"), (1, "y", "l"), (2, "nil", "l"), (3, "(cons 1 nil)", "l"),
                (4, "(add x x)", "n"), (5, "(sub 9 x)", "n"), (6, "(if x y nil)", "l"), (7, "(case y 0 h t h)", "n"),
                (8, "(let z 1 z)", "n"), (9, "(call g x)", "n"), (10, "(call f x y)", "n"), (11, "(tick 5 y)", "l"),
                (11, "(tick -5 x)", "n"), (12, "(share y a b a)", "l")):
            more = "(fun g ((n x)) n x)\n"
            text = f"(fun f ((n x) (l y)) {result} {expression})\n" + more
            self.assertEqual(answer_after(text, node(0)), told_node(sort, expression, 0))
            text = more + f"(fun f ((n x) (l y)) {result} {expression})\n"
            self.assertEqual(answer_after(text, node(1)), told_node(sort, expression, 1))
            self.assertEqual(answer_after(text, node(0)), told_node(1, "x", 0))

    def test_names_that_look_like_forms(self):
        text = "(fun shar ((n nill)) n (add nill (call shar nill)))\n"
        self.assertEqual(ask(program(text), *[node(label) for label in range(4)])[1:], [
            told_node(4, "(add nill (call shar nill))", 0), told_node(1, "nill", 0),
            told_node(9, "(call shar nill)", 0), told_node(1, "nill", 0)])

    def test_four_functions(self):
        text = "".join(f"(fun {name} ((n x)) n (tick {g} x))\n" for g, name in enumerate("abcd"))
        told = ask(program(text), *[node(label) for label in range(8)])[1:]
        self.assertEqual(told[0::2], [told_node(11, f"(tick {g} x)", g) for g in range(4)])
        self.assertEqual(told[1::2], [told_node(1, "x", g) for g in range(4)])

    def test_the_text_of_a_tick_below_0(self):
        for paid in range(-9, 10):
            text = f"(fun f ((n x)) n (add (tick {paid} x) 1))\n"
            self.assertEqual(answer_after(text, node(1)), told_node(11, f"(tick {paid} x)", 0))

    def test_sixty_nodes_nine_deep(self):
        chain = "(tick 1 " * 9 + "x" + ")" * 9
        lines = [f"(fun {name} ((n x)) n {chain})\n" for name in "ab"]
        wide = "(add " * 9 + "x" + " 1)" * 8 + " (tick 0 1))"
        lines += [f"(fun {name} ((n x)) n {wide})\n" for name in "cd"]
        text = "".join(lines)
        self.assertEqual(ask(program(text)), [[4, 60]])
        for label in range(10):
            told = told_node(11 if label < 9 else 1, chain[8 * label:len(chain) - label], 0)
            self.assertEqual(answer_after(text, node(label)), told)
        self.assertEqual(answer_after(text, node(20)), told_node(4, wide, 2))
        self.assertEqual(answer_after(text, node(40)), told_node(4, wide, 3))
        self.assertEqual(answer_after(text, node(58)), told_node(11, "(tick 0 1)", 3))
        self.assertEqual(answer_after(text, node(59)), told_node(0, "1", 3))
        self.assertEqual(answer_after(text, node(60)), [-4])


class NoNodes(unittest.TestCase):
    def test_below_0_and_from_the_number_of_nodes_on(self):
        for text, nodes in ((NEW, 1), (REV, 8), (REV + SUM, 16), (ALL_FORMS, 25)):
            for label in (-1, -2, -nodes, -nodes - 1, nodes, nodes + 1, 60, 10 ** 9, GREAT, GREAT - 1, -GREAT, 1 - GREAT):
                self.assertEqual(answer_after(text, node(label)), [-4])
            for label in range(nodes):
                self.assertGreaterEqual(answer_after(text, node(label))[0], 0)

    def test_labels_are_those_of_the_program_that_is_there(self):
        told = ask(node(0), node(1), program(REV), node(7), program("x"), node(7), node(8), program(NEW), node(7), node(0))
        last = told_node(1, "y", 0)
        self.assertEqual(told, [told_node(1, "x", 0), [-4], [1, 8], last, [-1], last, [-4], [1, 1], [-4],
                                told_node(1, "x", 0)])

    def test_nothing_is_changed(self):
        told = ask(program(REV), node(0), node(GREAT), [1], size(), node(0))
        self.assertEqual(told[1], told[5])
        self.assertEqual(told[3], [len(REV)] + as_bytes(REV))
        self.assertEqual(told[4], [1, 8, 4, 1])


if __name__ == "__main__":
    unittest.main()
