""""A function g" and "values a, b": what is refused, and in which order."""

import unittest

from tests.asking import (GREAT, answer_after, as_bytes, ask, calls, counted, counts, kinds, node, program, run, scaled,
                          show, size, ticks, within)


def scaled_by_2(g, a, b):
    return scaled(g, 2, a, b)


def within_400(g, a, b):
    return within(g, 400, a, b)


CALLS = (run, ticks, counts, calls, scaled_by_2, within_400)
BOTH = "(fun f ((n x) (l y)) n x)\n"
TURNED = "(fun f ((l x) (n y)) n y)\n"
NUMBER = "(fun f ((n x)) n x)\n"
LIST = "(fun f ((l x)) l x)\n"
NUMBERS = "(fun f ((n x) (n y)) n x)\n"
LISTS = "(fun f ((l x) (l y)) l x)\n"
OUTSIDE = (-1, 100, 101, -100, GREAT, -GREAT, GREAT - 1, 1 - GREAT)


class Refusals(unittest.TestCase):
    def refused(self, text, g, a, b, number):
        for call in CALLS:
            with self.subTest(text=text, g=g, a=a, b=b):
                self.assertEqual(answer_after(text, call(g, a, b)), [number])

    def taken(self, text, g, a, b):
        for call in CALLS:
            with self.subTest(text=text, g=g, a=a, b=b):
                self.assertGreaterEqual(answer_after(text, call(g, a, b))[0], 0)


class Functions(Refusals):
    def test_no_function_with_this_number(self):
        four = "".join(f"(fun {name} ((n x)) n x)\n" for name in "abcd")
        for many in range(1, 5):
            text = "".join(four.splitlines(keepends=True)[:many])
            for g in range(many):
                self.taken(text, g, [5], [])
            for g in (-1, -2, -many, many, many + 1, 10 ** 9, GREAT, -GREAT):
                self.refused(text, g, [5], [], -3)

    def test_each_number_is_its_own_function(self):
        text = "".join(f"(fun {name} ((n x)) n (tick {g} {g + 10}))\n" for g, name in enumerate("abcd"))
        for g in range(4):
            self.assertEqual(answer_after(text, run(g, [5])), [0, 2, g, g, 0, 1, g + 10])

    def test_the_function_is_looked_at_ahead_of_the_values(self):
        for a, b in (([], []), ([100], []), ([5], [5]), ([5] * 20, [GREAT])):
            self.refused(NUMBER, 1, a, b, -3)
            self.refused(NUMBER, -1, a, b, -3)
            self.refused(NUMBER, 0, a, b, -2)


class Values(Refusals):
    def test_one_parameter_and_b_not_empty(self):
        self.taken(NUMBER, 0, [5], [])
        self.taken(LIST, 0, [5], [])
        for b in ([5], [0], [5, 6], [1] * 20, [-1]):
            self.refused(NUMBER, 0, [5], b, -2)
            self.refused(LIST, 0, [5], b, -2)
            self.refused(LIST, 0, [], b, -2)

    def test_numbers_from_0_to_99(self):
        for number in (0, 1, 50, 98, 99):
            self.taken(NUMBER, 0, [number], [])
            self.taken(LISTS, 0, [number], [5, number])
        for number in OUTSIDE:
            self.refused(NUMBER, 0, [number], [], -2)
            self.refused(NUMBERS, 0, [number], [5], -2)
            self.refused(NUMBERS, 0, [5], [number], -2)
            self.refused(LIST, 0, [number], [], -2)
            self.refused(LIST, 0, [1, 2, number], [], -2)
            self.refused(LIST, 0, [1, number, 2], [], -2)
            self.refused(LISTS, 0, [number], [], -2)
            self.refused(LISTS, 0, [], [number], -2)
            self.refused(BOTH, 0, [5], [5, number], -2)
            self.refused(TURNED, 0, [number, 5], [5], -2)

    def test_a_numbers_list_has_just_one(self):
        for row in ([], [1, 2], [0, 0], [1] * 12, [1] * 13, [1] * 20):
            self.refused(NUMBER, 0, row, [], -2)
            self.refused(NUMBERS, 0, row, [5], -2)
            self.refused(NUMBERS, 0, [5], row, -2)
            self.refused(BOTH, 0, row, [5], -2)
            self.refused(TURNED, 0, [5], row, -2)
        self.refused(NUMBERS, 0, [], [], -2)

    def test_a_list_has_at_most_12(self):
        for many in range(13):
            row = list(range(many))
            self.assertEqual(answer_after(LIST, run(0, row)), [0, 1, 0, 0, 1, many] + row)
            self.taken(BOTH, 0, [5], row)
            self.taken(TURNED, 0, row, [5])
            self.taken(LISTS, 0, row, row)
        for many in range(13, 21):
            row = list(range(many))
            self.refused(LIST, 0, row, [], -2)
            self.refused(BOTH, 0, [5], row, -2)
            self.refused(TURNED, 0, row, [5], -2)
            self.refused(LISTS, 0, row, [], -2)
            self.refused(LISTS, 0, [], row, -2)

    def test_values_go_to_the_parameters_in_order(self):
        self.assertEqual(answer_after(BOTH, run(0, [5], [6, 7])), [0, 1, 0, 0, 0, 1, 5])
        self.assertEqual(answer_after(TURNED, run(0, [6, 7], [5])), [0, 1, 0, 0, 0, 1, 5])
        self.assertEqual(answer_after(NUMBERS, run(0, [5], [6])), [0, 1, 0, 0, 0, 1, 5])
        self.assertEqual(answer_after(LISTS, run(0, [5], [6])), [0, 1, 0, 0, 1, 1, 5])

    def test_values_are_handed_on_by_the_later_calls_too(self):
        two = "(fun f ((n x) (l y)) l (tick 4 (cons x y)))\n"
        self.assertEqual(answer_after(two, within(0, 400, [5], [6, 7])), [0, 4, 4, 4, 1, 3, 5, 6, 7])
        self.assertEqual(answer_after(two, scaled(0, 2, [5], [6, 7])), [0, 8, 8])
        self.assertEqual(answer_after(two, calls(0, [5], [6, 7])), [1, 0])

    def test_what_is_refused_leaves_the_program(self):
        told = ask(program(LIST), run(0, [100]), run(9, []), show(), run(0, [3]))
        self.assertEqual(told, [[1, 1], [-2], [-3], [len(LIST)] + list(LIST.encode()), [0, 1, 0, 0, 1, 1, 3]])


class Ranges(Refusals):
    BAD_VALUES = (([], []), ([100], []), ([-1], []), ([5], [5]), ([5, 6], []), ([5] * 20, [GREAT]))

    def test_scaled_takes_k_from_0_to_9(self):
        for k in range(10):
            self.assertEqual(answer_after(NUMBER, scaled(0, k, [5])), [0, 0, 0])
        for k in (-1, -2, -9, 10, 11, 100, 400, GREAT, -GREAT, GREAT - 1):
            self.assertEqual(answer_after(NUMBER, scaled(0, k, [5])), [-5])

    def test_within_takes_m_from_0_to_400(self):
        self.assertEqual(answer_after(NUMBER, within(0, 0, [5])), [1, 0, 0, 0])
        for m in (1, 2, 9, 10, 399, 400):
            self.assertEqual(answer_after(NUMBER, within(0, m, [5])), [0, 1, 0, 0, 0, 1, 5])
        for m in (-1, -2, -400, 401, 402, 1000, GREAT, -GREAT, GREAT - 1):
            self.assertEqual(answer_after(NUMBER, within(0, m, [5])), [-5])

    def test_the_function_comes_first_then_the_range_then_the_values(self):
        for call, good, bad in ((scaled, (0, 9), (-1, 10, GREAT)), (within, (0, 400), (-1, 401, -GREAT))):
            for g in (-1, 1, GREAT, -GREAT):
                for number in good + bad:
                    for a, b in self.BAD_VALUES + (([5], []),):
                        self.assertEqual(answer_after(NUMBER, call(g, number, a, b)), [-3])
            for a, b in self.BAD_VALUES:
                for number in bad:
                    self.assertEqual(answer_after(NUMBER, call(0, number, a, b)), [-5])
                for number in good:
                    self.assertEqual(answer_after(NUMBER, call(0, number, a, b)), [-2])


class NothingChanges(unittest.TestCase):
    TEXT = "(fun g ((l x)) n (case x (tick -1 0) h t (tick 2 (add h (call g t)))))\n"

    def looks(self):
        """All that can be told of the program without another one."""
        return [show(), kinds(), size(), node(0), run(0, [4, 5]), ticks(0, [4]), counts(0, [4]), calls(0, [4, 5]),
                scaled(0, 3, [4]), within(0, 6, [4, 5])]

    def wanted(self):
        whole = self.TEXT[self.TEXT.index("(case"):-2]
        return [counted(as_bytes(self.TEXT)), [1, 1, 1, 0], [1, 8, 4, 2], [7] + counted(as_bytes(whole)) + [0],
                [0, 15, 3, 4, 0, 1, 9], [2, 3, 2, 1, -1], [2, 1, 1, -1, 3, 1, 2], [1, 2], [0, 3, 6], [1, 6, 2, 2]]

    def test_none_of_the_calls_changes_the_program(self):
        told = ask(program(self.TEXT), *(self.looks() * 3))
        self.assertEqual(told, [[1, 8]] + self.wanted() * 3)

    def test_each_refusal_leaves_everything_and_the_calls_behind_it_are_answered(self):
        refusals = (
            (program("(fun f ((n x)) n y)\n"), -1), (program([255] * 2000), -1), (program([]), -1),
            (run(1, [4]), -3), (run(0, [100]), -2), (ticks(-1, [4]), -3), (ticks(0, [4], [4]), -2),
            (counts(GREAT, [4]), -3), (counts(0, [4] * 13), -2), (calls(1, [4]), -3), (calls(0, [4] * 20), -2),
            (scaled(1, 10, [4] * 20), -3), (scaled(0, 10, [4] * 20), -5), (scaled(0, 9, [4] * 20), -2),
            (within(1, 401, [4] * 20, [9] * 20), -3), (within(0, 401, [4] * 20), -5), (within(0, 400, [4], [9]), -2),
            (node(-1), -4), (node(8), -4), (node(GREAT), -4),
        )
        for call, number in refusals:
            told = ask(call, program(self.TEXT), call, *self.looks(), call, *self.looks())
            self.assertEqual(told[2:], [[number]] + self.wanted() + [[number]] + self.wanted())
        told = ask(program(self.TEXT), *[call for call, _ in refusals], *self.looks())
        self.assertEqual(told, [[1, 8]] + [[number] for _, number in refusals] + self.wanted())


if __name__ == "__main__":
    unittest.main()
