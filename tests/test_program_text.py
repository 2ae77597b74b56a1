"""Promise 1: which texts are written as a program is."""

import unittest

from tests.asking import ask, is_program, program, run, show, size

LETTERS = list(range(97, 123))


def body(expression, parameters="(n x) (l y)", result="n"):
    return f"(fun f ({parameters}) {result} {expression})\n"


def tree(nodes):
    """An expression of just so many nodes, standing in few others."""
    if nodes == 1:
        return "0"
    if nodes % 2 == 0:
        return f"(tick 1 {tree(nodes - 1)})"
    left = (nodes - 1) // 2
    return f"(add {tree(left)} {tree(nodes - 1 - left)})"


class Written(unittest.TestCase):
    def accepts(self, *texts):
        for text in texts:
            with self.subTest(text=text):
                self.assertTrue(is_program(text))

    def refuses(self, *texts):
        for text in texts:
            with self.subTest(text=text):
                self.assertFalse(is_program(text))


class Forms(Written):
    def test_every_form_is_taken(self):
        self.accepts(
            body("0"), body("99"), body("x"), body("nil", result="l"), body("y", result="l"),
            body("(cons x y)", result="l"), body("(add x 1)"), body("(sub 1 x)"), body("(if x 1 2)"),
            body("(case y 0 h t h)"), body("(let z 1 z)"), body("(call f x y)"), body("(tick 1 x)"),
            body("(share y a b 0)"), body("(call f x)", "(n x)"),
        )

    def test_functions_and_nodes_are_counted(self):
        self.assertEqual(ask(program(body("(cons x y)", result="l"))), [[1, 3]])
        self.assertEqual(ask(program(body("(case y 0 h t h)"))), [[1, 3]])
        self.assertEqual(ask(program(body("(share y a b (let z 1 z))"))), [[1, 4]])
        self.assertEqual(ask(program(body("(call f (tick 1 x) y)"))), [[1, 4]])
        four = "".join(f"(fun {name} ((n x)) n (add x 1))\n" for name in "abcd")
        self.assertEqual(ask(program(four)), [[4, 12]])

    def test_forms_with_a_part_too_many_or_too_few(self):
        self.refuses(
            body("(cons x)", result="l"), body("(cons x y nil)", result="l"), body("(add 1)"), body("(add 1 2 3)"),
            body("(sub 1)"), body("(sub 1 2 3)"), body("(if x 1)"), body("(if x 1 2 3)"), body("(case y 0 h h)"),
            body("(case y 0 h t)"), body("(case y 0 h t h h)"), body("(let z 1)"), body("(let z 1 z z)"),
            body("(call f)"), body("(call f x y x)"), body("(call)"), body("(tick 1)"), body("(tick 1 x x)"),
            body("(tick x)"), body("(share y a b)"), body("(share y a 0)"), body("(share y a b 0 0)"), body("(nil)"),
            body("()"), body("(x)"), body("(0)"), body("(fun x)"), body("(mul 1 2)"), body("(Add 1 2)"), body(""),
        )

    def test_what_is_a_name_in_a_form_is_no_expression(self):
        self.refuses(
            body("(case nil 0 h t h)"), body("(case (tick 1 y) 0 h t h)"), body("(share nil a b 0)"),
            body("(let 1 1 1)"), body("(let (x) 1 1)"), body("(call (f) x y)"), body("(case y 0 1 t 1)"),
        )

    def test_brackets_of_functions(self):
        self.refuses(
            "(fun f () n 0)\n", "(fun f n 0)\n", "(fun f (n x) n x)\n", "(fun f ((x)) n 0)\n", "(fun f ((n)) n 0)\n",
            "(fun f ((n x y)) n 0)\n", "(fun f ((n x) (n y) (n z)) n 0)\n", "(fun f ((n x)) x)\n",
            "(fun f ((n x)) n)\n", "(fun f ((n x)) n x x)\n", "(fun ((n x)) n x)\n", "fun f ((n x)) n x\n",
            "(fun f ((n x)) n x\n", "(fun f ((n x)) n x))\n", "((fun f ((n x)) n x))\n", "(fun f (((n x))) n x)\n",
            "(def f ((n x)) n x)\n", "(fun f ((m x)) n x)\n", "(fun f ((n x)) m x)\n", "(fun f ((nn x)) n x)\n",
            "(fun f ((n x)) ll nil)\n", "(fun f ((x n)) n x)\n", "(fun f ((n x)) (n) x)\n", "(fun f ((n x)(n y)) n x)\n",
        )


class Lines(Written):
    def test_the_empty_text_and_unended_lines(self):
        self.refuses("", "\n", "(fun f ((n x)) n x)", body("x") + "\n", "\n" + body("x"), body("x") + body("x")[:-1])
        self.refuses("(fun f ((n x)) n x)\r\n", "(fun f ((n x)) n\nx)\n", "(fun f ((n x)) n x) (fun g ((n x)) n x)\n")
        self.refuses("(fun f ((n x)) n x)(fun g ((n x)) n x)\n", "(fun f ((n x)) n x)\n\n(fun g ((n x)) n x)\n")

    def test_up_to_four_functions(self):
        lines = [f"(fun {name} ((n x)) n x)\n" for name in "abcde"]
        for many in range(1, 5):
            self.accepts("".join(lines[:many]))
        self.refuses("", "".join(lines))

    def test_a_blank_too_many_or_too_few(self):
        text = "(fun f ((n x) (l y)) n (case y (add x 1) h t (tick -1 (call f h t))))\n"
        self.accepts(text)
        for place in range(len(text) + 1):
            self.refuses(text[:place] + " " + text[place:])
        for place, sign in enumerate(text):
            if sign == " ":
                self.refuses(text[:place] + text[place + 1:])
                self.refuses(text[:place] + "\t" + text[place + 1:], text[:place] + "\n" + text[place + 1:])

    def test_every_text_cut_short(self):
        text = "(fun f ((n x)) n (if x 10 (tick 2 (call g nil))))\n(fun g ((l x)) n (case x 1 h t (sub h 2)))\n"
        self.accepts(text)
        for place in range(len(text)):
            self.refuses(text[:place])
        for place in range(1, len(text)):
            if text[place - 1] != "\n":
                self.refuses(text[place:])

    def test_every_byte_in_a_name_and_in_a_number(self):
        for byte in range(256):
            named = list(b"(fun f ((n x)) n x)\n")
            named[5] = byte
            self.assertEqual(is_program(named), byte in LETTERS, byte)
            numbered = list(b"(fun f ((n x)) n 1)\n")
            numbered[17] = byte
            self.assertEqual(is_program(numbered), byte in range(48, 58) or byte == 120, byte)
            blank = list(b"(fun f ((n x)) n x)\n")
            blank[4] = byte
            self.assertEqual(is_program(blank), byte == 32, byte)
            ended = list(b"(fun f ((n x)) n x)\n")
            ended[19] = byte
            self.assertEqual(is_program(ended), byte == 10, byte)
            self.assertFalse(is_program([byte]))
            self.assertFalse(is_program([byte] * 2000))


class Numbers(Written):
    def test_numbers_from_0_to_99(self):
        self.accepts(*[body(str(number)) for number in range(100)])

    def test_no_needless_zero_and_none_above_99(self):
        self.refuses(*[body(word) for word in (
            "00", "01", "09", "007", "000", "0099", "100", "101", "999", "1000000", "-1", "-0", "+1", "1-", "-", "--1",
            "1x", "x1", "1.0", "0x1", "1_0", "9" * 1900)])

    def test_a_tick_pays_from_minus_9_to_9(self):
        for paid in range(-9, 10):
            self.accepts(body(f"(tick {paid} x)"))
            told = ask(program(body(f"(tick {paid} 1)", "(n x)")), run(0, [5]))
            self.assertEqual(told[1], [0, 2, paid, max(paid, 0), 0, 1, 1])

    def test_other_numbers_of_ticks(self):
        self.refuses(*[body(f"(tick {word} x)") for word in (
            "10", "-10", "99", "-0", "00", "01", "-01", "-00", "--1", "+1", "-", "1-", "- 1", "x", "nil", "", "(1)",
            "-x", "100", "-100")])


class Names(Written):
    def test_names_of_one_to_four_small_letters(self):
        for name in ("a", "z", "n", "l", "ab", "abc", "abcd", "zzzz", "funs", "nils", "cas", "i", "ifs", "shar"):
            self.accepts(f"(fun {name} ((n x)) n x)\n", f"(fun f ((n {name})) n {name})\n", body(f"(let {name} 1 {name})"))
            self.accepts(body(f"(case y 0 {name} tt {name})"), body(f"(share y {name} zz 0)"))

    def test_names_too_long_reserved_or_of_other_signs(self):
        reserved = ("fun", "nil", "cons", "add", "sub", "if", "case", "let", "call", "tick")
        for name in reserved + ("abcde", "share", "F", "aB", "a1", "1a", "a-b", "a_b", "", "a" * 1800):
            self.refuses(f"(fun {name} ((n x)) n 1)\n", f"(fun f ((n {name})) n 1)\n", f"(fun f ((l {name})) n 1)\n")
            self.refuses(body(f"(let {name} 1 1)"), body(f"(case y 0 {name} t 1)"), body(f"(case y 0 h {name} 1)"))
            self.refuses(body(f"(share y {name} z 0)"), body(f"(share y z {name} 0)"), body(f"(add 1 {name})"))

    def test_two_functions_of_one_name(self):
        self.refuses(body("x") + body("x"), body("x") + body("1", "(l x)", "n"))
        self.refuses("(fun f ((n x)) n x)\n(fun g ((n x)) n x)\n(fun h ((n x)) n x)\n(fun f ((n x)) n x)\n")

    def test_two_parameters_of_one_name(self):
        self.refuses(body("1", "(n x) (n x)"), body("1", "(n x) (l x)"), body("1", "(l x) (n x)"))
        self.accepts(body("f", "(n f) (n n)"), "(fun f ((n x)) n x)\n(fun g ((n x)) n x)\n")


class Sizes(Written):
    def test_60_and_61_nodes(self):
        self.accepts(body(tree(60)), body(tree(59)))
        self.assertEqual(ask(program(body(tree(60)))), [[1, 60]])
        self.refuses(body(tree(61)), body(tree(62)), body(tree(90)))

    def test_nodes_of_all_functions_count_together(self):
        def two(first, second):
            return f"(fun f ((n x)) n {tree(first)})\n(fun g ((n x)) n {tree(second)})\n"
        self.assertEqual(ask(program(two(30, 30))), [[2, 60]])
        self.assertEqual(ask(program(two(1, 59))), [[2, 60]])
        self.refuses(two(30, 31), two(31, 30), two(60, 1), two(1, 60))

    def test_a_node_in_9_and_in_10_others(self):
        wraps = {"(tick 1 ": ")", "(add 1 ": ")", "(sub ": " 1)", "(if 0 ": " 1)", "(if ": " 0 1)", "(let z ": " 1)",
                 "(let z 1 ": ")", "(case y ": " h t 0)", "(call g ": ")"}
        for ahead, behind in wraps.items():
            for inner, many in (("x", 8), ("(add x x)", 7)):
                wrapped = "(tick 1 " * many + ahead + inner + behind + ")" * many
                self.accepts(body(wrapped) + "(fun g ((n x)) n x)\n")
                self.refuses(body(f"(tick 1 {wrapped})") + "(fun g ((n x)) n x)\n")
        self.accepts(body("(tick 1 " * 9 + "x" + ")" * 9))
        self.refuses(body("(tick 1 " * 10 + "x" + ")" * 10))
        self.refuses(body("x", "(n x)") + "(fun g ((n x)) n " + "(tick 1 " * 10 + "x" + ")" * 10 + ")\n")

    def test_depth_is_told(self):
        for many in range(10):
            text = body("(tick 1 " * many + "x" + ")" * many)
            self.assertEqual(ask(program(text), size())[1], [1, many + 1, many, many])

    def test_nested_much_deeper_than_any_program(self):
        ahead = "(fun f ((n x)) n "
        self.refuses("(" * 2000, ")" * 2000, "()" * 1000, ahead + "(" * 1900, " " * 2000, "\n" * 2000, "(fun " * 400)
        for wrap, end in (("(tick 1 ", ")"), ("(add 1 ", ")"), ("(if ", " 0 1)"), ("(let z ", " 1)"), ("(add ", " 1)"),
                          ("(if 0 1 ", ")"), ("(call f ", ")")):
            many = 1950 // (len(wrap) + len(end))
            self.refuses(ahead + wrap * many + "x" + end * many + ")\n")
            self.refuses(ahead + wrap * (1950 // len(wrap)))
        self.refuses("(fun f (" + "(" * 950 + "n x" + ")" * 950 + ") n x)\n")


class Refused(unittest.TestCase):
    def test_a_refused_program_leaves_the_program_as_it_was(self):
        kept = "(fun g ((l x)) l (tick 2 (cons 1 x)))\n"
        told = ask(program(kept), program("(fun f ((n x)) n y)\n"), show(), size(), run(0, [3]), program(""), show())
        self.assertEqual(told[1], [-1])
        self.assertEqual(told[2], [len(kept)] + list(kept.encode()))
        self.assertEqual(told[3], [1, 4, 2, 1])
        self.assertEqual(told[4], [0, 4, 2, 2, 1, 2, 1, 3])
        self.assertEqual(told[5], [-1])
        self.assertEqual(told[6], told[2])

    def test_a_program_taken_later_stands_in_the_earlier_ones_place(self):
        first = "(fun g ((l x)) l (tick 2 (cons 1 x)))\n"
        second = "(fun h ((n x)) n (add x x))\n"
        told = ask(program(first), program(second), show(), run(0, [4]), program(first), show(), run(0, []))
        self.assertEqual(told[2], [len(second)] + list(second.encode()))
        self.assertEqual(told[3], [0, 3, 0, 0, 0, 1, 8])
        self.assertEqual(told[5], [len(first)] + list(first.encode()))
        self.assertEqual(told[6], [0, 4, 2, 2, 1, 1, 1])


if __name__ == "__main__":
    unittest.main()
