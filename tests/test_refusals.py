""""A function g" and "values a, b": what is refused, and in which order."""

import unittest

from tests.asking import GREAT, answer_after, ask, counts, program, run, show, ticks

CALLS = (run, ticks, counts)
BOTH = "(fun f ((n x) (l y)) n x)\n"
TURNED = "(fun f ((l x) (n y)) n y)\n"
NUMBER = "(fun f ((n x)) n x)\n"
LIST = "(fun f ((l x)) l x)\n"
NUMBERS = "(fun f ((n x) (n y)) n x)\n"
LISTS = "(fun f ((l x) (l y)) l x)\n"
OUTSIDE = (-1, 100, 101, -100, GREAT, -GREAT, GREAT - 1, 1 - GREAT)


class Refusals(unittest.TestCase):
    def refused(self, text, g, a, b, number):
        for call in CALLS:
            with self.subTest(text=text, g=g, a=a, b=b):
                self.assertEqual(answer_after(text, call(g, a, b)), [number])

    def taken(self, text, g, a, b):
        for call in CALLS:
            with self.subTest(text=text, g=g, a=a, b=b):
                self.assertGreaterEqual(answer_after(text, call(g, a, b))[0], 0)


class Functions(Refusals):
    def test_no_function_with_this_number(self):
        four = "".join(f"(fun {name} ((n x)) n x)\n" for name in "abcd")
        for many in range(1, 5):
            text = "".join(four.splitlines(keepends=True)[:many])
            for g in range(many):
                self.taken(text, g, [5], [])
            for g in (-1, -2, -many, many, many + 1, 10 ** 9, GREAT, -GREAT):
                self.refused(text, g, [5], [], -3)

    def test_each_number_is_its_own_function(self):
        text = "".join(f"(fun {name} ((n x)) n (tick {g} {g + 10}))\n" for g, name in enumerate("abcd"))
        for g in range(4):
            self.assertEqual(answer_after(text, run(g, [5])), [0, 2, g, g, 0, 1, g + 10])

    def test_the_function_is_looked_at_ahead_of_the_values(self):
        for a, b in (([], []), ([100], []), ([5], [5]), ([5] * 20, [GREAT])):
            self.refused(NUMBER, 1, a, b, -3)
            self.refused(NUMBER, -1, a, b, -3)
            self.refused(NUMBER, 0, a, b, -2)


class Values(Refusals):
    def test_one_parameter_and_b_not_empty(self):
        self.taken(NUMBER, 0, [5], [])
        self.taken(LIST, 0, [5], [])
        for b in ([5], [0], [5, 6], [1] * 20, [-1]):
            self.refused(NUMBER, 0, [5], b, -2)
            self.refused(LIST, 0, [5], b, -2)
            self.refused(LIST, 0, [], b, -2)

    def test_numbers_from_0_to_99(self):
        for number in (0, 1, 50, 98, 99):
            self.taken(NUMBER, 0, [number], [])
            self.taken(LISTS, 0, [number], [5, number])
        for number in OUTSIDE:
            self.refused(NUMBER, 0, [number], [], -2)
            self.refused(NUMBERS, 0, [number], [5], -2)
            self.refused(NUMBERS, 0, [5], [number], -2)
            self.refused(LIST, 0, [number], [], -2)
            self.refused(LIST, 0, [1, 2, number], [], -2)
            self.refused(LIST, 0, [1, number, 2], [], -2)
            self.refused(LISTS, 0, [number], [], -2)
            self.refused(LISTS, 0, [], [number], -2)
            self.refused(BOTH, 0, [5], [5, number], -2)
            self.refused(TURNED, 0, [number, 5], [5], -2)

    def test_a_numbers_list_has_just_one(self):
        for row in ([], [1, 2], [0, 0], [1] * 12, [1] * 13, [1] * 20):
            self.refused(NUMBER, 0, row, [], -2)
            self.refused(NUMBERS, 0, row, [5], -2)
            self.refused(NUMBERS, 0, [5], row, -2)
            self.refused(BOTH, 0, row, [5], -2)
            self.refused(TURNED, 0, [5], row, -2)
        self.refused(NUMBERS, 0, [], [], -2)

    def test_a_list_has_at_most_12(self):
        for many in range(13):
            row = list(range(many))
            self.assertEqual(answer_after(LIST, run(0, row)), [0, 1, 0, 0, 1, many] + row)
            self.taken(BOTH, 0, [5], row)
            self.taken(TURNED, 0, row, [5])
            self.taken(LISTS, 0, row, row)
        for many in range(13, 21):
            row = list(range(many))
            self.refused(LIST, 0, row, [], -2)
            self.refused(BOTH, 0, [5], row, -2)
            self.refused(TURNED, 0, row, [5], -2)
            self.refused(LISTS, 0, row, [], -2)
            self.refused(LISTS, 0, [], row, -2)

    def test_values_go_to_the_parameters_in_order(self):
        self.assertEqual(answer_after(BOTH, run(0, [5], [6, 7])), [0, 1, 0, 0, 0, 1, 5])
        self.assertEqual(answer_after(TURNED, run(0, [6, 7], [5])), [0, 1, 0, 0, 0, 1, 5])
        self.assertEqual(answer_after(NUMBERS, run(0, [5], [6])), [0, 1, 0, 0, 0, 1, 5])
        self.assertEqual(answer_after(LISTS, run(0, [5], [6])), [0, 1, 0, 0, 1, 1, 5])

    def test_what_is_refused_leaves_the_program(self):
        told = ask(program(LIST), run(0, [100]), run(9, []), show(), run(0, [3]))
        self.assertEqual(told, [[1, 1], [-2], [-3], [len(LIST)] + list(LIST.encode()), [0, 1, 0, 0, 1, 1, 3]])


if __name__ == "__main__":
    unittest.main()
