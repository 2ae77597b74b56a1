"""Promise 7: how often each function was called in a run."""

import unittest

from tests.asking import answer_after, ask, calls, program, run
from tests.test_runs import BUILD, DOWN, one


class Calls(unittest.TestCase):
    def tells(self, text, g, a, told, b=()):
        with self.subTest(text=text, g=g, a=a, b=b):
            self.assertEqual(answer_after(text, calls(g, a, b)), [len(told)] + told)

    def test_being_run_at_first_does_not_count(self):
        self.tells(one("x"), 0, [7], [0])
        self.tells("(fun f ((n x)) n x)\n(fun g ((n x)) n x)\n", 1, [7], [0, 0])
        self.tells("(fun f ((n x)) n (call g x))\n(fun g ((n x)) n x)\n", 1, [7], [0, 0])

    def test_a_function_that_calls_itself(self):
        for x in range(67):
            self.tells(DOWN, 0, [x], [x])
        twice = "(fun f ((n x)) n (if x 1 (add (call f (sub x 1)) (call f (sub x 1)))))\n"
        for x, told in ((0, 0), (1, 2), (2, 6), (3, 14), (4, 30)):
            self.tells(twice, 0, [x], [told])

    def test_functions_that_call_each_other(self):
        text = "(fun even ((n x)) n (if x 1 (call odd (sub x 1))))\n(fun odd ((n x)) n (if x 0 (call even (sub x 1))))\n"
        for x in range(20):
            self.tells(text, 0, [x], [x // 2, (x + 1) // 2])
            self.tells(text, 1, [x], [(x + 1) // 2, x // 2])

    def test_each_function_in_order_and_those_never_called(self):
        text = ("(fun d ((n x)) n 0)\n(fun c ((n x)) n (add (call a x) (add (call a x) (call b x))))\n"
                "(fun b ((n x)) n (call a x))\n(fun a ((n x)) n x)\n")
        self.tells(text, 0, [5], [0, 0, 0, 0])
        self.tells(text, 1, [5], [0, 0, 1, 3])
        self.tells(text, 2, [5], [0, 0, 0, 1])
        self.tells(text, 3, [5], [0, 0, 0, 0])

    def test_calls_in_parts_that_are_not_done_are_none(self):
        more = "(fun g ((n x)) n x)\n(fun h ((n x)) n x)\n"
        self.tells(one("(if x (call g x) (call h x))") + more, 0, [0], [0, 1, 0])
        self.tells(one("(if x (call g x) (call h x))") + more, 0, [1], [0, 0, 1])
        text = one("(case x (call g 1) h t (call h h))", "n", "(l x)") + more
        self.tells(text, 0, [], [0, 1, 0])
        self.tells(text, 0, [9], [0, 0, 1])

    def test_calls_with_one_and_with_two_arguments(self):
        text = one("(add (call g x) (add (call h x x) (call h 1 (call g 2))))")
        self.tells(text + "(fun g ((n x)) n x)\n(fun h ((n x) (n y)) n y)\n", 0, [5], [0, 2, 2])
        rev = "(fun rev ((l x) (l y)) l (case x y h t (call rev t (cons h y))))\n"
        self.tells(rev, 0, [1, 2, 3], [3])
        self.tells(rev, 0, [], [0], [1, 2])
        self.tells(rev, 0, list(range(12)), [12], list(range(12)))

    def test_a_call_within_a_calls_argument(self):
        more = "(fun g ((n x)) n x)\n(fun h ((n x) (n y)) n (call g x))\n"
        self.tells(one("(call g (call g (call g x)))") + more, 0, [5], [0, 3, 0])
        self.tells(one("(call h (call h x 1) (call g x))") + more, 0, [5], [0, 3, 2])

    def test_calls_everywhere_in_an_expression(self):
        more = "(fun g ((n x)) n x)\n(fun h ((l x)) l x)\n"
        self.tells(one("(tick 1 (let z (call g x) (sub (call g z) (call g z))))") + more, 0, [5], [0, 3, 0])
        self.tells(one("(cons (call g x) (call h nil))", "l") + more, 0, [5], [0, 1, 1])
        text = one("(share x a b (if (call g 0) (call h a) (call h b)))", "l", "(l x)") + more
        self.tells(text, 0, [5], [0, 1, 1])

    def test_names_of_values_like_functions(self):
        self.tells("(fun g ((n f)) n (call f f))\n(fun f ((n g)) n (add g g))\n", 0, [5], [0, 1])

    def test_each_run_for_itself(self):
        told = ask(program(DOWN), calls(0, [5]), calls(0, [0]), run(0, [9]), calls(0, [5]), calls(0, [99]))
        self.assertEqual(told[1:3] + told[4:], [[1, 5], [1, 0], [1, 5], [1, 66]])


class LongRuns(unittest.TestCase):
    def tells(self, text, g, a, steps, told):
        with self.subTest(text=text, g=g, a=a):
            account, counted_calls = ask(program(text), run(g, a), calls(g, a))[1:]
            self.assertEqual(account[:2], [1, steps])
            self.assertEqual(counted_calls, [len(told)] + told)

    def test_the_first_node_of_the_body_is_one_step_too_many(self):
        # Two steps to each call, and the 200th call's body is not begun.
        self.tells(one("(call f x)"), 0, [7], 400, [200])
        self.tells(one("(call f x)") + "(fun g ((n x)) n (tick 1 (tick 1 (call f x))))\n", 1, [7], 400, [199, 0])
        self.tells(one("(call f (add 1 (call f x)))"), 0, [7], 400, [80])

    def test_one_whose_argument_is_not_done_is_none(self):
        # With three steps ahead the last call is come to as step 400, its argument never.
        self.tells(one("(call f x)") + "(fun g ((n x)) n (tick 1 (call f x)))\n", 1, [7], 400, [199, 0])
        self.tells(one("(call f (call f x))"), 0, [7], 400, [133])
        self.tells(one("(call f (add (call g x) (call f x)))") + "(fun g ((n x)) n x)\n", 0, [7], 400, [57, 57])

    def test_one_with_only_the_first_of_two_arguments_done_is_none(self):
        text = "(fun f ((n x) (n y)) n (call f x y))\n"
        self.assertEqual(answer_after(text, calls(0, [7], [8])), [1, 133])
        ahead = text + "(fun g ((n x)) n (tick 1 (call f x x)))\n"
        self.tells(ahead, 1, [7], 400, [133, 0])
        ahead = text + "(fun g ((n x)) n (tick 1 (tick 1 (call f x x))))\n"
        self.tells(ahead, 1, [7], 400, [132, 0])
        ahead = text + "(fun g ((n x)) n (tick 1 (tick 1 (tick 1 (call f x x)))))\n"
        self.tells(ahead, 1, [7], 400, [132, 0])

    def test_functions_that_call_each_other_for_ever(self):
        text = "(fun f ((n x)) n (call g x 1))\n(fun g ((n x) (n y)) n (call f x))\n"
        self.assertEqual(answer_after(text, calls(0, [7])), [2, 80, 80])
        self.assertEqual(answer_after(text, calls(1, [7], [8])), [2, 80, 80])

    def test_a_run_that_is_long_by_a_cons(self):
        self.tells(BUILD, 0, [41], 331, [41])
        text = BUILD + "(fun g ((n x)) n (call h (cons 1 (call f x))))\n(fun h ((l x)) n 1)\n"
        self.assertEqual(answer_after(text, calls(1, [39])), [3, 40, 0, 1])
        self.tells(text, 1, [40], 5 + 323, [41, 0, 0])


if __name__ == "__main__":
    unittest.main()
