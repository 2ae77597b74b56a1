"""Lines of several calls: how answers stand in a row, and that nothing is changed or kept."""

import unittest

from payinglists.runs import answers
from tests.asking import GREAT, ask, counts, kinds, program, run, show, size, ticks
from tests.test_example import NEW, REV, SUM


def line_of(*calls):
    return [number for call in calls for number in call]


class Lines(unittest.TestCase):
    def test_answers_stand_behind_how_many_numbers_they_have(self):
        line = line_of(program(REV + SUM), run(1, [7]), run(5), run(1, [100]), program("x"), size())
        self.assertEqual(answers(line), [
            2, 2, 16,
            7, 0, 9, 1, 3, 0, 1, 7,
            1, -3,
            1, -2,
            1, -1,
            4, 2, 16, 4, 3,
        ])

    def test_a_single_call(self):
        self.assertEqual(answers([2]), [4, 1, 1, 0, 0])
        self.assertEqual(answers([10]), [4, 1, 1, 0, 0])
        self.assertEqual(answers([0, 0]), [1, -1])
        self.assertEqual(answers([3, 0, 1, 9, 0]), [7, 0, 1, 0, 0, 0, 1, 9])

    def test_forty_calls_on_one_object(self):
        calls = [show(), run(0, [4]), program(REV), kinds(), run(0, [1, 2], [3]), ticks(0, [1], []), counts(0, [], []),
                 run(7), program(REV + REV), size()]
        told = ask(*(calls * 4))
        first = [
            [len(NEW)] + list(NEW.encode()), [0, 1, 0, 0, 0, 1, 4], [1, 8], [1, 2, 1, 1, 1],
            [0, 16, 2, 2, 1, 3, 2, 1, 3], [1, 2, 1], [1, 2, 0, 0], [-3], [-1], [1, 8, 4, 1],
        ]
        later = [[len(REV)] + list(REV.encode()), [0, 9, 1, 1, 1, 1, 4]] + first[2:]
        self.assertEqual(told[:10], first)
        self.assertEqual(told[10:], later * 3)

    def test_forty_long_runs(self):
        text = "(fun f ((n x)) n (tick 3 (tick -2 (call f x))))\n"
        told = ask(program(text), *([ticks(0, [7])] * 39))
        self.assertEqual(told[1:], [[200] + [0, 3, 1, -2] * 100] * 39)

    def test_a_refused_call_is_passed_over_whole(self):
        odd = [0, 1, 2, 3, 4, 5, 10, 10, 10, 3, 0, 1]
        told = ask(run(9, odd, odd), run(0, odd, odd), ticks(-GREAT, odd, odd), counts(0, odd, odd), program(odd), size())
        self.assertEqual(told, [[-3], [-2], [-3], [-2], [-1], [1, 1, 0, 0]])

    def test_what_is_handed_in_is_not_changed(self):
        line = line_of(program(REV + SUM), run(0, [5, 6], [7, 8]), ticks(1, [1, 2]), counts(1, [3]), show(), program([0]),
                       run(0, [100]), kinds(), size())
        kept = list(line)
        answers(line)
        self.assertEqual(line, kept)

    def test_a_second_time_is_as_the_first(self):
        line = line_of(show(), program(REV + SUM), run(0, [5, 6], [7, 8]), ticks(1, [1, 2]), show())
        first = answers(line)
        kept = list(first)
        first.clear()
        self.assertEqual(answers(line), kept)
        self.assertEqual(answers([1]), [len(NEW) + 1, len(NEW)] + list(NEW.encode()))

    def test_what_is_answered_is_a_list_of_whole_numbers(self):
        line = line_of(program(REV + SUM), run(0, [5, 6], [7, 8]), run(1, [1]), ticks(1, [1]), counts(1, [3]), show(),
                       kinds(), size(), run(3), run(0, [100]), program([0]))
        told = answers(line)
        self.assertIs(type(told), list)
        self.assertEqual({type(number) for number in told}, {int})


if __name__ == "__main__":
    unittest.main()
