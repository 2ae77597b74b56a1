"""Promises 8 and 9: runs whose ticks pay k times as much, and runs with m steps allowed."""

import unittest

from tests.asking import answer_after, ask, calls, counts, program, run, scaled, ticks, within
from tests.test_example import REV, SUM
from tests.test_runs import BUILD, DOWN, one


class Scaled(unittest.TestCase):
    def test_every_k(self):
        text = one("(tick -3 (tick 5 (tick -4 (tick 1 x))))")
        for k in range(10):
            self.assertEqual(answer_after(text, scaled(0, k, [7])), [0, -k, 2 * k])
        for k in range(10):
            self.assertEqual(answer_after(REV + SUM, scaled(1, k, [4, 3, 9])), [0, 7 * k, 9 * k])
            self.assertEqual(answer_after(REV + SUM, scaled(0, k, [5, 6], [1])), [0, 2 * k, 2 * k])

    def test_0_1_and_9_times_as_much(self):
        text = one("(add (tick 9 x) (tick 9 (tick -2 1)))")
        self.assertEqual(answer_after(text, scaled(0, 0, [7])), [0, 0, 0])
        self.assertEqual(answer_after(text, scaled(0, 1, [7])), [0, 16, 18])
        self.assertEqual(answer_after(text, scaled(0, 9, [7])), [0, 144, 162])

    def test_ticks_below_0_have_a_peak_of_0_at_least(self):
        text = one("(tick -3 (tick -9 x))")
        for k in range(10):
            self.assertEqual(answer_after(text, scaled(0, k, [7])), [0, -12 * k, 0])
        for k in range(10):
            self.assertEqual(answer_after(one("(tick -3 (tick 3 x))"), scaled(0, k, [7])), [0, 0, 0])
            self.assertEqual(answer_after(one("(tick 3 (tick -3 x))"), scaled(0, k, [7])), [0, 0, 3 * k])

    def test_no_ticks(self):
        self.assertEqual(answer_after(DOWN, scaled(0, 9, [5])), [0, 0, 0])

    def test_a_run_that_is_long(self):
        text = one("(tick 3 (tick -2 (call f x)))")
        for k in range(10):
            self.assertEqual(answer_after(text, scaled(0, k, [7])), [0, 100 * k, 102 * k])
        text = one("(tick -9 (call f x))")
        for k in (0, 1, 9):
            self.assertEqual(answer_after(text, scaled(0, k, [7])), [0, -9 * 134 * k, 0])
        text = BUILD + "(fun g ((n x)) l (tick 1 (cons (tick 2 5) (tick 3 (tick -4 (call f x))))))\n"
        self.assertEqual(answer_after(text, scaled(1, 5, [40])), [0, 10, 30])

    def test_what_later_calls_tell_stays_as_it_was(self):
        text = one("(tick 4 (tick -1 x))")
        told = ask(program(text), scaled(0, 5, [7]), run(0, [7]), ticks(0, [7]), counts(0, [7]), scaled(0, 1, [7]))
        self.assertEqual(told[1:], [[0, 15, 20], [0, 3, 3, 4, 0, 1, 7], [2, 0, 4, 1, -1], [2, 0, 1, 4, 1, 1, -1],
                                    [0, 3, 4]])


class Within(unittest.TestCase):
    def test_no_step_allowed(self):
        for text, a in ((one("x"), [7]), (one("(tick 5 x)"), [7]), (DOWN, [0]), (SUM, []), (BUILD, [41])):
            self.assertEqual(answer_after(text, within(0, 0, a)), [1, 0, 0, 0])

    def test_each_number_of_steps(self):
        # A run on 7: case, tick 3, add, h, call, t; then case, tick -2, 0.
        ended = [0, 9, 1, 3, 0, 1, 7]
        long = [[1, 0, 0, 0], [1, 1, 0, 0]] + [[1, m, 3, 3] for m in range(2, 8)] + [[1, 8, 1, 3]]
        told = ask(program(SUM), *[within(0, m, [7]) for m in range(12)])
        self.assertEqual(told[1:], long + [ended] * 3)

    def test_just_the_steps_that_a_run_needs_and_one_less(self):
        for x in (0, 1, 5, 66):
            steps = 6 * x + 3
            self.assertEqual(answer_after(DOWN, within(0, steps, [x])), [0, steps, 0, 0, 0, 1, 0])
            self.assertEqual(answer_after(DOWN, within(0, steps - 1, [x])), [1, steps - 1, 0, 0])
            self.assertEqual(answer_after(DOWN, within(0, 400, [x])), [0, steps, 0, 0, 0, 1, 0])

    def test_what_comes_behind_the_last_step_needs_none(self):
        self.assertEqual(answer_after(one("(add x (add x 1))"), within(0, 5, [7])), [0, 5, 0, 0, 0, 1, 15])
        self.assertEqual(answer_after(one("(cons x (cons 2 nil))", "l"), within(0, 5, [7])), [0, 5, 0, 0, 1, 2, 7, 2])
        self.assertEqual(answer_after(one("(cons x (cons 2 nil))", "l"), within(0, 4, [7])), [1, 4, 0, 0])

    def test_400_is_as_a_run(self):
        for text, a in ((DOWN, [66]), (DOWN, [67]), (BUILD, [41]), (one("(tick 3 (tick -2 (call f x)))"), [7])):
            first, second = ask(program(text), run(0, a), within(0, 400, a))[1:]
            self.assertEqual(first, second)

    def test_just_400_and_399(self):
        text = "(fun f ((n x)) n (if x (tick 7 0) (call f (sub x 1))))\n"
        self.assertEqual(answer_after(text, within(0, 400, [66])), [0, 400, 7, 7, 0, 1, 0])
        self.assertEqual(answer_after(text, within(0, 399, [66])), [1, 399, 7, 7])
        self.assertEqual(answer_after(text, within(0, 398, [66])), [1, 398, 0, 0])

    def test_a_run_that_would_be_long_anyway(self):
        text = one("(tick 1 (call f x))")
        for m in range(401):
            self.assertEqual(answer_after(text, within(0, m, [7])), [1, m, (m + 2) // 3, (m + 2) // 3])

    def test_a_cons_onto_40_numbers_is_long_with_any_m(self):
        self.assertEqual(answer_after(BUILD, within(0, 323, [40]))[:6], [0, 323, 0, 0, 1, 40])
        for m in range(401):
            self.assertEqual(answer_after(BUILD, within(0, m, [41])), [1, min(m, 331), 0, 0])

    def test_what_is_paid_till_then(self):
        text = one("(tick 9 (tick -5 (tick -6 (tick 1 x))))")
        accounts = [[1, 0, 0, 0], [1, 1, 9, 9], [1, 2, 4, 9], [1, 3, -2, 9], [1, 4, -1, 9], [0, 5, -1, 9, 0, 1, 7]]
        self.assertEqual(ask(program(text), *[within(0, m, [7]) for m in range(6)])[1:], accounts)

    def test_later_runs_are_allowed_400_again(self):
        told = ask(program(DOWN), within(0, 3, [66]), run(0, [66]), calls(0, [66]), within(0, 0, [0]), within(0, 3, [0]))
        self.assertEqual(told[1:], [[1, 3, 0, 0], [0, 399, 0, 0, 0, 1, 0], [1, 66], [1, 0, 0, 0], [0, 3, 0, 0, 0, 1, 0]])


if __name__ == "__main__":
    unittest.main()
