"""Promises 4 to 6: runs, their ticks and their counts."""

import unittest

from tests.asking import answer_after, ask, counts, program, run, ticks

DOWN = "(fun f ((n x)) n (if x 0 (call f (sub x 1))))\n"
BUILD = "(fun f ((n x)) l (if x nil (cons x (call f (sub x 1)))))\n"


def one(expression, result="n", parameters="(n x)"):
    return f"(fun f ({parameters}) {result} {expression})\n"


class Nodes(unittest.TestCase):
    def gives_number(self, expression, given, steps, value, parameters="(n x)", more=""):
        text = one(expression, "n", parameters) + more
        self.assertEqual(answer_after(text, run(0, *given)), [0, steps, 0, 0, 0, 1, value])

    def gives_list(self, expression, given, steps, value, parameters="(l x)", more=""):
        text = one(expression, "l", parameters) + more
        self.assertEqual(answer_after(text, run(0, *given)), [0, steps, 0, 0, 1, len(value)] + value)

    def test_number_name_and_nil(self):
        self.gives_number("42", [[7]], 1, 42)
        self.gives_number("0", [[7]], 1, 0)
        self.gives_number("x", [[7]], 1, 7)
        self.gives_number("y", [[7], [8]], 1, 8, "(n x) (n y)")
        self.gives_list("x", [[3, 1, 2]], 1, [3, 1, 2])
        self.gives_list("x", [[]], 1, [])
        self.gives_list("nil", [[3]], 1, [])

    def test_cons(self):
        self.gives_list("(cons 5 x)", [[3, 1]], 3, [5, 3, 1])
        self.gives_list("(cons 1 (cons 2 nil))", [[9]], 5, [1, 2])

    def test_add_is_modulo_100(self):
        for first, second, value in ((0, 0, 0), (40, 59, 99), (50, 50, 0), (60, 41, 1), (99, 99, 98)):
            self.gives_number("(add x y)", [[first], [second]], 3, value, "(n x) (n y)")

    def test_sub_is_0_at_least(self):
        for first, second, value in ((0, 0, 0), (99, 0, 99), (9, 4, 5), (4, 9, 0), (0, 99, 0), (5, 5, 0), (5, 6, 0)):
            self.gives_number("(sub x y)", [[first], [second]], 3, value, "(n x) (n y)")

    def test_if_does_the_second_part_at_0_else_the_third(self):
        self.gives_number("(if x 11 (add 1 21))", [[0]], 3, 11)
        self.gives_number("(if x 11 (add 1 21))", [[1]], 5, 22)
        self.gives_number("(if x 11 (add 1 21))", [[99]], 5, 22)
        self.gives_number("(if (add x 1) 11 22)", [[99]], 5, 11)

    def test_case(self):
        self.gives_number("(case x 50 h t h)", [[]], 2, 50, "(l x)")
        self.gives_number("(case x 50 h t h)", [[8, 9]], 2, 8, "(l x)")
        self.gives_number("(case x 50 h t h)", [[0]], 2, 0, "(l x)")
        self.gives_list("(case x nil h t t)", [[8, 9, 7]], 2, [9, 7])
        self.gives_list("(case x nil h t t)", [[8]], 2, [])
        self.gives_list("(case x (cons 1 nil) h t t)", [[]], 4, [1])

    def test_let(self):
        self.gives_number("(let y (add x 1) (add y y))", [[6]], 7, 14)
        self.gives_list("(let y (cons 1 x) (cons 2 y))", [[6]], 7, [2, 1, 6])
        self.gives_number("(let x (add x 1) (let x (add x x) x))", [[6]], 9, 14)
        self.gives_number("(add (let x 50 x) x)", [[6]], 5, 56)

    def test_case_and_share_bind_anew(self):
        self.gives_list("(case x nil x t (cons x t))", [[4, 5]], 4, [4, 5])
        self.gives_list("(case x nil h x x)", [[4, 5]], 2, [5])
        self.gives_list("(share x x y x)", [[4, 5]], 2, [4, 5])

    def test_call(self):
        self.gives_number("(call g x)", [[6]], 5, 16, more="(fun g ((n y)) n (add y 10))\n")
        more = "(fun g ((n y) (n x)) n (sub y x))\n"
        self.gives_number("(call g x 4)", [[6]], 6, 2, more=more)
        self.gives_number("(call g 4 x)", [[6]], 6, 0, more=more)
        self.gives_list("(call g x)", [[6]], 3, [], more="(fun g ((l x)) l nil)\n")

    def test_a_called_body_sees_its_own_names_alone(self):
        more = "(fun g ((n y)) n (let x (add y 1) x))\n"
        self.gives_number("(let y 30 (add (call g x) (add x y)))", [[6]], 13, 43, more=more)

    def test_tick(self):
        self.assertEqual(answer_after(one("(tick 4 x)"), run(0, [7])), [0, 2, 4, 4, 0, 1, 7])
        self.assertEqual(answer_after(one("(tick 0 x)"), run(0, [7])), [0, 2, 0, 0, 0, 1, 7])
        self.assertEqual(answer_after(one("(tick -4 x)"), run(0, [7])), [0, 2, -4, 0, 0, 1, 7])

    def test_share(self):
        self.gives_list("(share x y z (case y z h t (cons h z)))", [[1, 2]], 5, [1, 1, 2])
        self.gives_list("(share x y z (case z y h t (cons h y)))", [[1, 2]], 5, [1, 1, 2])
        self.gives_list("(share x y z (case y z h t (cons h z)))", [[]], 3, [])


class Order(unittest.TestCase):
    def tells(self, expression, told, result="n", parameters="(n x)", given=(7,), more=""):
        self.assertEqual(answer_after(one(expression, result, parameters) + more, ticks(0, given)), told)

    def test_parts_from_left_to_right(self):
        for word in ("add", "sub"):
            self.tells(f"({word} (tick 1 0) (tick 2 0))", [2, 1, 1, 3, 2])
        self.tells("(cons (tick 1 0) (tick 2 nil))", [2, 1, 1, 3, 2], "l")
        self.tells("(let y (tick 1 0) (tick 2 y))", [2, 1, 1, 3, 2])
        self.tells("(call g (tick 1 0) (tick 2 0))", [3, 1, 1, 3, 2, 5, 3], more="(fun g ((n x) (n y)) n (tick 3 x))\n")
        self.tells("(call g (tick 1 0))", [2, 1, 1, 3, 3], more="(fun g ((n x)) n (tick 3 x))\n")

    def test_a_tick_pays_ahead_of_its_part(self):
        self.tells("(tick 1 (tick -2 (tick 3 x)))", [3, 0, 1, 1, -2, 2, 3])
        self.tells("(tick 1 (add (tick 2 0) (tick 3 0)))", [3, 0, 1, 2, 2, 4, 3])

    def test_only_one_of_the_parts_is_done(self):
        self.tells("(if (tick 1 x) (tick 2 0) (tick 3 0))", [2, 1, 1, 3, 2], given=(0,))
        self.tells("(if (tick 1 x) (tick 2 0) (tick 3 0))", [2, 1, 1, 5, 3], given=(1,))
        self.tells("(case x (tick 2 0) h t (tick 3 h))", [1, 1, 2], parameters="(l x)", given=())
        self.tells("(case x (tick 2 0) h t (tick 3 h))", [1, 3, 3], parameters="(l x)", given=(5,))
        self.tells("(share x y z (tick 3 0))", [1, 1, 3], parameters="(l x)", given=(5,))


class Long(unittest.TestCase):
    def test_just_400_steps_and_one_more(self):
        self.assertEqual(answer_after(DOWN, run(0, [66])), [0, 399, 0, 0, 0, 1, 0])
        self.assertEqual(answer_after(DOWN, run(0, [67])), [1, 400, 0, 0])
        ended = "(fun g ((n x)) n (tick 2 (if x 0 (call f (sub x 1)))))\n"
        self.assertEqual(answer_after(DOWN + ended, run(1, [66])), [0, 400, 2, 2, 0, 1, 0])
        longer = "(fun g ((n x)) n (tick 2 (tick 3 (if x 0 (call f (sub x 1))))))\n"
        self.assertEqual(answer_after(DOWN + longer, run(1, [66])), [1, 400, 5, 5])

    def test_a_tick_as_the_last_step_allowed_and_as_one_too_many(self):
        last = "(fun f ((n x)) n (if x (tick 7 0) (call f (sub x 1))))\n"
        self.assertEqual(answer_after(last, run(0, [66])), [0, 400, 7, 7, 0, 1, 0])
        last = "(fun f ((n x)) n (if x (tick 7 (tick 5 0)) (call f (sub x 1))))\n"
        self.assertEqual(answer_after(last, run(0, [66])), [1, 400, 12, 12])
        last = "(fun f ((n x)) n (if x (tick 7 (tick 5 (tick 1 0))) (call f (sub x 1))))\n"
        self.assertEqual(answer_after(last, run(0, [66])), [1, 400, 12, 12])
        self.assertEqual(answer_after(last, counts(0, [66])), [3, 2, 1, 7, 3, 1, 5, 4, 0, 0])

    def test_what_comes_after_the_last_step_needs_none(self):
        text = ("(fun f ((n x)) n (if x 0 (call f (sub x 1))))\n"
                "(fun g ((n x)) n (add (call f x) (add (add 1 1) (add 1 (tick 2 1)))))\n")
        steps = 6 * 64 + 3 + 3 + 8
        self.assertEqual(answer_after(text, run(1, [64])), [0, steps, 2, 2, 0, 1, 4])
        self.assertEqual(answer_after(text, run(1, [65])), [1, 400, 0, 0])

    def test_cons_onto_39_and_onto_40_numbers(self):
        self.assertEqual(answer_after(BUILD, run(0, [39])), [0, 315, 0, 0, 1, 39] + list(range(39, 0, -1)))
        self.assertEqual(answer_after(BUILD, run(0, [40])), [0, 323, 0, 0, 1, 40] + list(range(40, 0, -1)))
        self.assertEqual(answer_after(BUILD, run(0, [41])), [1, 331, 0, 0])

    def test_the_cons_that_is_too_much_has_done_its_parts(self):
        text = BUILD + "(fun g ((n x)) l (tick 1 (cons (tick 2 5) (tick 3 (tick -4 (call f x))))))\n"
        self.assertEqual(answer_after(text, run(1, [39]))[:6], [0, 8 + 315, 2, 6, 1, 40])
        self.assertEqual(answer_after(text, run(1, [40])), [1, 8 + 323, 2, 6])
        self.assertEqual(answer_after(text, ticks(1, [40])), [4, 9, 1, 11, 2, 13, 3, 14, -4])

    def test_the_run_stands_still_at_a_cons_too_much(self):
        text = BUILD + "(fun g ((n x)) n (let y (cons 1 (call f x)) (tick 5 1)))\n"
        self.assertEqual(answer_after(text, run(1, [39])), [0, 5 + 315 + 2, 5, 5, 0, 1, 1])
        self.assertEqual(answer_after(text, run(1, [40])), [1, 5 + 323, 0, 0])

    def test_a_list_may_be_let_go_and_built_again(self):
        text = BUILD + "(fun g ((n x)) l (case (call f x) nil h t (cons 1 (cons 2 t))))\n"
        self.assertEqual(ask(program(text)), [[-1]])
        text = BUILD + "(fun g ((n x)) l (let y (call f x) (case y nil h t (cons 7 t))))\n"
        self.assertEqual(answer_after(text, run(1, [40])), [0, 3 + 323 + 4, 0, 0, 1, 40, 7] + list(range(39, 0, -1)))

    def test_paid_and_peak_with_ticks_below_0(self):
        text = one("(tick -3 (tick 5 (tick -4 (tick 1 x))))")
        self.assertEqual(answer_after(text, run(0, [7])), [0, 5, -1, 2, 0, 1, 7])
        self.assertEqual(answer_after(one("(tick -3 (tick -9 x))"), run(0, [7])), [0, 3, -12, 0, 0, 1, 7])
        self.assertEqual(answer_after(one("(tick -3 (tick 3 x))"), run(0, [7])), [0, 3, 0, 0, 0, 1, 7])
        self.assertEqual(answer_after(one("(tick 9 (tick -9 (tick 8 x)))"), run(0, [7])), [0, 4, 8, 9, 0, 1, 7])

    def test_paid_and_peak_of_a_run_that_is_long(self):
        text = one("(tick 3 (tick -2 (call f x)))")
        self.assertEqual(answer_after(text, run(0, [7])), [1, 400, 100, 102])
        self.assertEqual(answer_after(text, ticks(0, [7])), [200] + [0, 3, 1, -2] * 100)
        self.assertEqual(answer_after(text, counts(0, [7])), [2, 0, 100, 300, 1, 100, -200])
        text = one("(tick -9 (call f x))")
        self.assertEqual(answer_after(text, run(0, [7])), [1, 400, -9 * 134, 0])
        self.assertEqual(answer_after(text, counts(0, [7])), [1, 0, 134, -9 * 134])

    def test_calls_hundreds_deep(self):
        self.assertEqual(answer_after(one("(call f x)"), run(0, [7])), [1, 400, 0, 0])
        self.assertEqual(answer_after(one("(call f (call f x))"), run(0, [7])), [1, 400, 0, 0])
        self.assertEqual(answer_after(one("(add 1 (call f 0))"), run(0, [7])), [1, 400, 0, 0])
        self.assertEqual(answer_after(one("(add (call f 0) (tick 1 1))"), run(0, [7])), [1, 400, 0, 0])
        self.assertEqual(answer_after(one("(tick 1 (call f 0))"), run(0, [7])), [1, 400, 134, 134])

    def test_calls_over_a_hundred_deep_that_end(self):
        text = ("(fun f ((n x)) n (if x 0 (call g x)))\n(fun g ((n x)) n (call h x))\n"
                "(fun h ((n x)) n (call k x))\n(fun k ((n x)) n (call f (sub x 1)))\n")
        self.assertEqual(answer_after(text, run(0, [33])), [0, 399, 0, 0, 0, 1, 0])
        self.assertEqual(answer_after(text, run(0, [34])), [1, 400, 0, 0])

    def test_the_steps_begin_anew_with_each_run(self):
        told = ask(program(DOWN), run(0, [67]), run(0, [66]), run(0, [67]), run(0, [0]))
        self.assertEqual(told[1:], [[1, 400, 0, 0], [0, 399, 0, 0, 0, 1, 0], [1, 400, 0, 0], [0, 3, 0, 0, 0, 1, 0]])


class TicksAndCounts(unittest.TestCase):
    TEXT = ("(fun a ((n x)) n (tick 1 (if x (tick 2 (call b x)) (tick -3 (call a (sub x 1))))))\n"
            "(fun b ((n x)) n (add (tick 0 1) (tick 4 x)))\n"
            "(fun c ((n x)) n (tick 9 x))\n")

    def test_labels_over_several_functions(self):
        told = ask(program(self.TEXT), ticks(0, [1]), ticks(1, [3]), ticks(2, [3]))
        self.assertEqual(told[0], [3, 18])
        self.assertEqual(told[1], [6, 0, 1, 6, -3, 0, 1, 3, 2, 12, 0, 14, 4])
        self.assertEqual(told[2], [2, 12, 0, 14, 4])
        self.assertEqual(told[3], [1, 16, 9])

    def test_counts_tell_every_ticks_node_rising(self):
        told = ask(program(self.TEXT), counts(0, [2]), counts(1, [3]), counts(2, [3]))
        self.assertEqual(told[1], [6, 0, 3, 3, 3, 1, 2, 6, 2, -6, 12, 1, 0, 14, 1, 4, 16, 0, 0])
        self.assertEqual(told[2], [6, 0, 0, 0, 3, 0, 0, 6, 0, 0, 12, 1, 0, 14, 1, 4, 16, 0, 0])
        self.assertEqual(told[3], [6, 0, 0, 0, 3, 0, 0, 6, 0, 0, 12, 0, 0, 14, 0, 0, 16, 1, 9])

    def test_a_program_without_ticks(self):
        self.assertEqual(ask(program(DOWN), ticks(0, [3]), counts(0, [3])), [[1, 7], [0], [0]])


if __name__ == "__main__":
    unittest.main()
