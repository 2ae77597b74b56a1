"""Lines of several calls: how answers stand in a row, and that nothing is changed or kept."""

import unittest

from payinglists.runs import answers
from tests.asking import (GREAT, ask, calls, counts, kinds, line_of, node, program, run, scaled, show, size, ticks,
                          told_node, within)
from tests.test_example import NEW, REV, SUM

# Every call, taken and refused.
ALL = [
    program(REV + SUM), show(), kinds(), run(0, [5, 6], [7, 8]), run(1, [1]), ticks(1, [1, 2]), counts(1, [3]),
    calls(0, [1, 2], [3]), scaled(1, 4, [9, 9]), within(0, 7, [5, 6], [7]), within(0, 30, [5, 6], [7]), node(5), size(),
    program([0]), run(3), run(0, [100]), ticks(3), counts(1, [1], [1]), calls(-1), scaled(0, 10), within(0, 401),
    within(1, 9, [100]), node(16), node(-1),
]


class Kept(list):
    """A list that can't be changed, not for a while either."""

    def refuse(self, *given, **named):
        raise AssertionError("what is handed in is changed")

    append = clear = extend = insert = pop = remove = reverse = sort = refuse
    __setitem__ = __delitem__ = __iadd__ = __imul__ = refuse


class Lines(unittest.TestCase):
    def test_answers_stand_behind_how_many_numbers_they_have(self):
        line = line_of(program(REV + SUM), run(1, [7]), run(5), run(1, [100]), program("x"), size())
        self.assertEqual(answers(line), [
            2, 2, 16,
            7, 0, 9, 1, 3, 0, 1, 7,
            1, -3,
            1, -2,
            1, -1,
            4, 2, 16, 4, 3,
        ])
        line = line_of(program(REV + SUM), calls(1, [7]), scaled(1, 10), scaled(1, 3, [7]), within(1, 5, [7]), node(9),
                       node(16))
        self.assertEqual(answers(line), [
            2, 2, 16,
            3, 2, 0, 1,
            1, -5,
            3, 0, 3, 9,
            4, 1, 5, 3, 3,
            14, 11, 11, 40, 116, 105, 99, 107, 32, 45, 50, 32, 48, 41, 1,
            1, -4,
        ])

    def test_a_single_call(self):
        self.assertEqual(answers([2]), [4, 1, 1, 0, 0])
        self.assertEqual(answers([10]), [4, 1, 1, 0, 0])
        self.assertEqual(answers([0, 0]), [1, -1])
        self.assertEqual(answers([3, 0, 1, 9, 0]), [7, 0, 1, 0, 0, 0, 1, 9])
        self.assertEqual(answers([6, 0, 1, 9, 0]), [2, 1, 0])
        self.assertEqual(answers([7, 0, 5, 1, 9, 0]), [3, 0, 0, 0])
        self.assertEqual(answers([8, 0, 0, 1, 9, 0]), [4, 1, 0, 0, 0])
        self.assertEqual(answers([9, 0]), [4, 1, 1, 120, 0])
        self.assertEqual(answers([9, 1]), [1, -4])

    def test_forty_calls_on_one_object(self):
        asked = [show(), run(0, [4]), program(REV), kinds(), run(0, [1, 2], [3]), ticks(0, [1], []), counts(0, [], []),
                 run(7), program(REV + REV), size()]
        told = ask(*(asked * 4))
        first = [
            [len(NEW)] + list(NEW.encode()), [0, 1, 0, 0, 0, 1, 4], [1, 8], [1, 2, 1, 1, 1],
            [0, 16, 2, 2, 1, 3, 2, 1, 3], [1, 2, 1], [1, 2, 0, 0], [-3], [-1], [1, 8, 4, 1],
        ]
        later = [[len(REV)] + list(REV.encode()), [0, 9, 1, 1, 1, 1, 4]] + first[2:]
        self.assertEqual(told[:10], first)
        self.assertEqual(told[10:], later * 3)

    def test_forty_calls_of_all_eleven(self):
        asked = [program(REV + SUM), show(), kinds(), run(1, [4]), ticks(1, [4]), counts(1, [4]), calls(1, [4, 5]),
                 scaled(1, 2, [4]), within(1, 8, [4]), node(9), size(), scaled(0, 10), node(16)]
        told = ask(*(asked * 3), show())
        text = [len(REV + SUM)] + list((REV + SUM).encode())
        wanted = [
            [2, 16], text, [2, 2, 1, 1, 1, 1, 1, 0], [0, 9, 1, 3, 0, 1, 4], [2, 11, 3, 9, -2],
            [3, 2, 0, 0, 9, 1, -2, 11, 1, 3], [2, 0, 2], [0, 2, 6], [1, 8, 1, 3], told_node(11, "(tick -2 0)", 1),
            [2, 16, 4, 3], [-5], [-4],
        ]
        self.assertEqual(told, wanted * 3 + [text])

    def test_forty_long_runs(self):
        text = "(fun f ((n x)) n (tick 3 (tick -2 (call f x))))\n"
        told = ask(program(text), *([ticks(0, [7])] * 39))
        # Not assertEqual: were they unlike, telling how would take it minutes.
        self.assertTrue(told[1:] == [[200] + [0, 3, 1, -2] * 100] * 39)

    def test_a_refused_call_is_passed_over_whole(self):
        odd = [0, 1, 2, 3, 4, 5, 10, 10, 10, 3, 0, 1]
        told = ask(run(9, odd, odd), run(0, odd, odd), ticks(-GREAT, odd, odd), counts(0, odd, odd), program(odd), size())
        self.assertEqual(told, [[-3], [-2], [-3], [-2], [-1], [1, 1, 0, 0]])
        told = ask(calls(9, odd, odd), calls(0, odd, odd), scaled(9, 10, odd, odd), scaled(0, 10, odd, odd),
                   scaled(0, 9, odd, odd), within(9, 401, odd, odd), within(0, 401, odd, odd), within(0, 10, odd, odd),
                   node(10), node(0), size())
        self.assertEqual(told, [[-3], [-2], [-3], [-5], [-2], [-3], [-5], [-2], [-4], [1, 1, 120, 0], [1, 1, 0, 0]])

    def test_what_is_handed_in_is_not_changed(self):
        line = line_of(*ALL)
        kept = list(line)
        told = answers(line)
        self.assertEqual(line, kept)
        self.assertEqual(answers(Kept(line)), told)

    def test_a_second_time_is_as_the_first(self):
        line = line_of(show(), calls(0, [3]), node(0), *ALL, show())
        first = answers(line)
        kept = list(first)
        first.clear()
        self.assertEqual(answers(line), kept)
        self.assertEqual(answers([1]), [len(NEW) + 1, len(NEW)] + list(NEW.encode()))

    def test_what_is_answered_is_a_list_of_whole_numbers(self):
        told = answers(line_of(*ALL))
        self.assertIs(type(told), list)
        self.assertEqual({type(number) for number in told}, {int})


if __name__ == "__main__":
    unittest.main()
