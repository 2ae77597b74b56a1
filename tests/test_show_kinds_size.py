"""Promises 2, 3 and 11: what is told of a program."""

import unittest

from tests.asking import answer_after, as_bytes, ask, counted, kinds, program, show, size

FOUR = ("(fun a ((n x)) n (tick 0 x))\n"
        "(fun b ((l x) (n y)) n (tick 1 (add y (tick -1 (tick 2 0)))))\n"
        "(fun c ((n x) (l y)) l (cons x y))\n"
        "(fun d ((l x)) l (if (add 1 (add 2 (add 3 4))) x nil))\n")


class Show(unittest.TestCase):
    def test_show_gives_back_the_text_itself(self):
        for text in (FOUR, "(fun f ((n x)) n x)\n", "(fun abcd ((l wxyz)) l (tick -9 (cons 99 wxyz)))\n"):
            self.assertEqual(ask(program(text), show(), show())[1:], [counted(as_bytes(text))] * 2)

    def test_show_of_a_long_text(self):
        body = "(tick -9 (tick -9 (add 99 (sub 99 99))))"
        body = f"(add {body} (add {body} (add {body} (let abcd 99 (tick -9 abcd)))))"
        text = "".join(f"(fun {name} ((n abcd) (n wxyz)) n {body})\n" for name in ("aaaa", "bbbb"))
        self.assertEqual(ask(program(text))[0], [2, 56])
        self.assertEqual(answer_after(text, show()), counted(as_bytes(text)))


class Kinds(unittest.TestCase):
    def test_one_parameter(self):
        values = {"n": "0", "l": "nil"}
        for given in "nl":
            for result in "nl":
                text = f"(fun f (({given} x)) {result} {values[result]})\n"
                self.assertEqual(answer_after(text, kinds()), [1, 1, "nl".index(given), "nl".index(result)])

    def test_two_parameters(self):
        values = {"n": "0", "l": "nil"}
        for first in "nl":
            for second in "nl":
                for result in "nl":
                    text = f"(fun f (({first} x) ({second} y)) {result} {values[result]})\n"
                    told = ["nl".index(first), "nl".index(second), "nl".index(result)]
                    self.assertEqual(answer_after(text, kinds()), [1, 2] + told)

    def test_several_functions_in_their_order(self):
        self.assertEqual(answer_after(FOUR, kinds()), [4, 1, 0, 0, 2, 1, 0, 0, 2, 0, 1, 1, 1, 1, 1])


class Size(unittest.TestCase):
    def test_the_new_object(self):
        self.assertEqual(ask(size()), [[1, 1, 0, 0]])

    def test_several_functions(self):
        self.assertEqual(answer_after(FOUR, size()), [4, 21, 4, 4])

    def test_the_deepest_may_stand_in_any_function(self):
        deep = "(fun f ((n x)) n (add 0 (add 0 (add 0 x))))\n"
        flat = "(fun g ((n x)) n x)\n"
        self.assertEqual(answer_after(deep + flat, size()), [2, 8, 3, 0])
        self.assertEqual(answer_after(flat + deep, size()), [2, 8, 3, 0])

    def test_the_greatest_depth_and_the_most_nodes(self):
        chain = "(tick 1 " * 9 + "x" + ")" * 9
        self.assertEqual(answer_after(f"(fun f ((n x)) n {chain})\n", size()), [1, 10, 9, 9])
        lines = [f"(fun {name} ((n x)) n {chain})\n" for name in "abc"]
        wide = "(add " * 9 + "x" + " 1)" * 9
        self.assertEqual(answer_after("".join(lines) + f"(fun d ((n x)) n {wide})\n", size()), [4, 49, 9, 27])
        wider = "(add " * 9 + "x" + " 1)" * 8 + " (tick 0 1))"
        most = "".join(lines[:2]) + f"(fun d ((n x)) n {wider})\n(fun e ((n x)) n {wider})\n"
        self.assertEqual(answer_after(most, size()), [4, 60, 9, 20])

    def test_every_form_counts_as_one_node_and_ticks_alone_as_ticks(self):
        for expression, nodes, depth in (
                ("7", 1, 0), ("x", 1, 0), ("(add x 1)", 3, 1), ("(sub x 1)", 3, 1), ("(if x 1 2)", 4, 1),
                ("(case y 1 h t h)", 3, 1), ("(let z 1 z)", 3, 1), ("(call f x y)", 3, 1), ("(call g y)", 2, 1),
                ("(share y a b x)", 2, 1), ("(call g nil)", 2, 1), ("(call g (cons x y))", 4, 2)):
            text = f"(fun f ((n x) (l y)) n {expression})\n(fun g ((l x)) n 0)\n"
            self.assertEqual(answer_after(text, size()), [2, nodes + 1, depth, 0])

    def test_size_follows_the_program(self):
        told = ask(size(), program(FOUR), size(), program("nothing"), size(), program("(fun f ((l x)) l x)\n"), size())
        self.assertEqual(told, [[1, 1, 0, 0], [4, 21], [4, 21, 4, 4], [-1], [4, 21, 4, 4], [1, 1], [1, 1, 0, 0]])

    def test_names_told_in_forms_are_no_nodes(self):
        text = "(fun f ((l x)) n (share x a b (case a (let z b 1) h t (tick 3 h))))\n"
        self.assertEqual(ask(program(text), size()), [[1, 7], [1, 7, 3, 1]])


if __name__ == "__main__":
    unittest.main()
