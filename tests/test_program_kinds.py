"""Promise 1: each rule of the kinds, and each rule of "Once"."""

import unittest

from tests.asking import answer_after, is_program, run

GIVEN = "(n m) (l x)"


class Looked(unittest.TestCase):
    def body(self, expression, result="n", parameters=GIVEN):
        # Names are m for a number, x for a list; one and two are there to be called.
        return (f"(fun f ({parameters}) {result} {expression})\n"
                "(fun one ((l x)) n 1)\n(fun two ((n x) (l y)) l y)\n(fun plus ((n x) (n y)) n (add x y))\n")

    def numbers(self, *expressions, parameters=GIVEN):
        """Each is a number, and no list."""
        for expression in expressions:
            with self.subTest(expression):
                self.assertTrue(is_program(self.body(expression, "n", parameters)))
                self.assertFalse(is_program(self.body(expression, "l", parameters)))

    def lists(self, *expressions, parameters=GIVEN):
        """Each is a list, and no number."""
        for expression in expressions:
            with self.subTest(expression):
                self.assertTrue(is_program(self.body(expression, "l", parameters)))
                self.assertFalse(is_program(self.body(expression, "n", parameters)))

    def neither(self, *expressions, parameters=GIVEN):
        for expression in expressions:
            with self.subTest(expression):
                self.assertFalse(is_program(self.body(expression, "n", parameters)))
                self.assertFalse(is_program(self.body(expression, "l", parameters)))


class Kinds(Looked):
    def test_numbers_names_and_nil(self):
        self.numbers("0", "99", "m")
        self.lists("nil", "x")

    def test_cons(self):
        self.lists("(cons 1 nil)", "(cons m x)", "(cons m (cons 2 x))")
        self.neither("(cons nil nil)", "(cons x nil)", "(cons 1 2)", "(cons m m)", "(cons nil 1)")

    def test_add_and_sub(self):
        for word in ("add", "sub"):
            self.numbers(f"({word} 1 m)", f"({word} ({word} m m) m)")
            self.neither(f"({word} nil 1)", f"({word} 1 nil)", f"({word} x m)", f"({word} m x)", f"({word} nil nil)")

    def test_if(self):
        self.numbers("(if m 1 2)", "(if 0 m m)")
        self.lists("(if m x nil)", "(if m nil x)")
        self.neither("(if x 1 2)", "(if nil nil nil)", "(if m 1 nil)", "(if m nil 1)", "(if m x m)")

    def test_case(self):
        self.numbers("(case x 1 h t h)", "(case x m h t (call one t))")
        self.lists("(case x nil h t t)", "(case x nil h t (cons h t))")
        self.neither("(case m 1 h t h)", "(case x 1 h t t)", "(case x nil h t h)", "(case x nil a a a)",
                     "(case x 1 a a 1)", "(case x h h t h)", "(case x t h t t)", "(case x 1 h t (add t 1))",
                     "(case x nil h t (cons t nil))", "(case x nil h t (cons h h))", "(case z 1 h t h)")

    def test_let(self):
        self.numbers("(let z 1 z)", "(let z x 1)", "(let z x (call one z))", "(let z m (add z z))")
        self.lists("(let z x z)", "(let z 1 (cons z nil))", "(let z nil x)")
        self.neither("(let z z z)", "(let z 1 (cons 1 z))", "(let z nil (add z 1))", "(let z (add 1 nil) 1)",
                     "(add (let z 1 z) z)", "(add z (let z 1 z))")

    def test_call(self):
        self.numbers("(call one x)", "(call one nil)", "(call plus m m)")
        self.lists("(call two m x)", "(call two m nil)")
        self.neither("(call one m)", "(call one x nil)", "(call two m)", "(call two x)", "(call two x m)",
                     "(call two m m)", "(call plus m x)", "(call plus x m)", "(call plus m)", "(call none m)",
                     "(call m m)", "(call x x)", "(call one 1)")

    def numbers_or_lists(self, expression):
        return [is_program(self.body(expression, result)) for result in "nl"]

    def test_a_call_of_itself_or_of_a_later_one_is_looked_at_by_what_it_says(self):
        self.assertEqual(self.numbers_or_lists("(call f m x)"), [True, True])
        self.assertEqual(self.numbers_or_lists("(add 1 (call f m x))"), [True, False])
        self.assertEqual(self.numbers_or_lists("(cons 1 (call f m x))"), [False, True])
        self.assertEqual(self.numbers_or_lists("(call f x m)"), [False, False])

    def test_tick(self):
        self.numbers("(tick 1 m)", "(tick -9 0)")
        self.lists("(tick 1 x)", "(tick 0 nil)")
        self.neither("(tick 1 z)", "(tick 1 (add x x))")

    def test_share(self):
        self.numbers("(share x a b 1)", "(share x a b (call one a))", "(share x a b (add (call one a) (call one b)))")
        self.lists("(share x a b a)", "(share x a b b)", "(share x a b (cons 1 b))")
        self.neither("(share m a b 1)", "(share x a a 1)", "(share x a a a)", "(share z a b 1)",
                     "(share x a b (add a 1))", "(share x a b (add 1 b))", "(add (share x a b 1) (call one a))")

    def test_names_are_bound_in_that_function(self):
        self.neither("y", "(add y 1)", "(cons 1 y)", "f", "one", "(tick 1 z)")
        self.assertFalse(is_program("(fun f ((n x)) n x)\n(fun g ((n y)) n x)\n"))
        self.assertFalse(is_program("(fun f ((n x)) n y)\n(fun g ((n y)) n y)\n"))
        self.assertTrue(is_program("(fun f ((n x)) n x)\n(fun g ((l x)) l x)\n"))
        self.assertTrue(is_program("(fun f ((n f)) n (call f f))\n"))

    def test_every_function_is_looked_at(self):
        good = ["(fun a ((n x)) n x)\n", "(fun b ((n x)) n x)\n", "(fun c ((n x)) n x)\n", "(fun d ((n x)) n x)\n"]
        for place in range(4):
            for bad in ("nil", "y", "(call e x)"):
                lines = list(good)
                lines[place] = lines[place].replace("n x)\n", f"n {bad})\n")
                self.assertFalse(is_program("".join(lines)))

    def test_the_innermost_of_several_counts(self):
        self.lists("(let m x m)", "(let x 1 (cons x nil))", "(case x nil x t (cons x t))", "(case x nil h m m)",
                   "(share x m b m)", "(let m nil (let m 1 (cons m nil)))", "(case x nil h x (cons h x))")
        self.numbers("(let x m x)", "(case x 1 x t x)", "(let x 1 (add x x))")
        self.neither("(let x 1 (cons 1 x))", "(case x nil h m (cons m nil))", "(let m x (add m 1))",
                     "(let x 1 (case x 1 h t 1))", "(let x 1 (share x a b 1))", "(case x 1 h m m)")


class Once(Looked):
    def test_not_in_two_parts_that_are_both_done(self):
        self.neither("(cons (call one x) x)", "(add (call one x) (call one x))", "(sub (call one x) (call one x))",
                     "(call two (call one x) x)", "(call plus (call one x) (call one x))", "(let z x x)",
                     "(let z (call one x) (cons z x))", "(tick 1 (cons (call one x) (tick 1 x)))",
                     "(cons 1 (cons (call one x) (cons 2 x)))")

    def test_one_of_the_parts_alone(self):
        self.numbers("(add (call one x) 1)", "(add 1 (call one x))", "(sub (call one x) m)",
                     "(call plus (call one x) m)", "(let z (call one x) z)", "(let z 1 (call one x))")
        self.lists("(cons (call one x) nil)", "(cons 1 x)", "(call two (call one x) nil)", "(call two 1 x)")

    def test_ifs_first_part_and_one_of_the_others(self):
        self.neither("(if (call one x) x nil)", "(if (call one x) nil x)", "(if (call one x) x x)",
                     "(if (call one x) (call one x) 1)", "(if (case x 0 h t h) 1 (call one x))")
        self.numbers("(if (call one x) 1 2)")

    def test_of_ifs_two_last_parts_one_is_done(self):
        self.lists("(if m x x)", "(if m x (cons 1 x))", "(if m (if m x x) (if m x x))")
        self.numbers("(if m (call one x) (call one x))")
        self.neither("(cons (call one x) (if m x nil))", "(cons (call one x) (if m nil x))",
                     "(add (if m (call one x) 1) (if m 1 (call one x)))", "(let z (if m 1 (call one x)) x)",
                     "(if m (add (call one x) (call one x)) 1)", "(if m 1 (add (call one x) (call one x)))")

    def test_cases_list_and_what_is_in_its_parts(self):
        self.neither("(case x x h t nil)", "(case x nil h t x)", "(case x (call one x) h t 1)",
                     "(case x 1 h t (case x 1 a b 1))", "(case x 1 h t (share x a b 1))", "(case x x h t x)")

    def test_of_both_parts_of_case_one_is_done(self):
        two = "(l x) (l y)"
        self.lists("(case x y h t y)", "(case x y h t (cons h y))", "(case y x h t (if h x t))", parameters=two)
        self.numbers("(case x (call one y) h t (call one y))", parameters=two)
        self.neither("(cons (call one y) (case x y h t nil))", "(cons (call one y) (case x nil h t y))",
                     "(let z y (case x nil h t y))", "(cons (case x 1 h t 1) (case y x h t nil))",
                     "(cons (case x 1 h t 1) x)", "(if (case x 0 h t 1) x y)", parameters=two)

    def test_what_case_binds_is_used_once(self):
        self.neither("(case x nil h t (cons (call one t) t))", "(case x 1 h t (add (call one t) (call one t)))")
        self.lists("(case x nil h t (if h t t))", "(case x nil h t (cons h (cons h t)))")

    def test_shares_list_and_what_is_in_its_part(self):
        self.neither("(share x a b x)", "(share x a b (cons (call one a) x))", "(share x a b (share x c d 1))",
                     "(share x a b (case x 1 h t 1))", "(cons (share x a b 1) x)", "(let z x (share x a b 1))")

    def test_what_share_binds_is_used_once_each(self):
        self.neither("(share x a b (cons (call one a) a))", "(share x a b (add (call one b) (call one b)))",
                     "(share x a b (share a c d a))")
        self.lists("(share x a b (cons (call one a) b))", "(share x a b (cons (call one b) a))", "(share x a b a)",
                   "(share x a b (share a c d (cons (call one b) (cons (call one c) d))))", "(share x a b (if m a a))")

    def test_what_let_binds_is_used_once(self):
        self.neither("(let z x (cons (call one z) z))", "(let z nil (add (call one z) (call one z)))")
        self.lists("(let z x z)", "(let z nil (if m z z))", "(let z x (let w z w))")

    def test_numbers_as_often_as_one_likes(self):
        self.numbers("(add m (add m (add m m)))", "(if m m m)", "(let m m (add m m))", "(let z m (add z (add z m)))")
        self.lists("(case x nil h t (cons h (cons h (cons (add h h) t))))")

    def test_names_bound_anew_within_are_other_names(self):
        self.lists("(let x (cons 1 x) x)", "(let x x x)", "(let x x (let x x (let x x x)))",
                   "(case x nil h x x)", "(case x nil x t (cons x (cons x t)))", "(share x x b x)", "(share x a x x)",
                   "(share x x b (cons (call one x) b))", "(share x a x (cons (call one a) x))",
                   "(cons (let x nil (call one x)) x)", "(cons (let x 1 (add x x)) x)")
        self.neither("(share x x b (cons (call one x) x))", "(let x x (cons (call one x) x))",
                     "(case x nil h x (cons (call one x) x))", "(case x x h x x)", "(cons (let z x 1) x)",
                     "(cons (let x x 1) x)", "(cons (share x x b 1) x)", "(cons (case x 1 h x 1) x)")

    def test_an_outer_name_behind_an_inner_one_of_its_name(self):
        two = "(l x) (l y)"
        self.lists("(cons (case y 1 h x (call one x)) x)", "(cons (share y x z (call one x)) x)",
                   "(cons (let x y (call one x)) x)", parameters=two)
        self.neither("(cons (case y (call one x) h x (call one x)) x)", "(cons (let x x (call one x)) x)",
                     parameters=two)

    def test_lists_need_not_be_used(self):
        self.numbers("1", "(let z nil 1)", "(share x a b 1)", "(case x 1 h t 2)", "(if m (call one x) 1)")

    def test_each_function_for_itself(self):
        text = "(fun f ((l x)) l x)\n(fun g ((l x)) l x)\n(fun h ((l x)) l (call f (call g x)))\n"
        self.assertEqual(answer_after(text, run(2, [4])), [0, 5, 0, 0, 1, 1, 4])


if __name__ == "__main__":
    unittest.main()
