"""The document's example, and the program of a new object."""

import unittest

from tests.asking import ask, counted, as_bytes, counts, kinds, program, run, show, size, ticks

NEW = "(fun f ((n x)) n x)\n"
REV = "(fun rev ((l x) (l y)) l (case x y h t (tick 1 (call rev t (cons h y)))))\n"
SUM = "(fun sum ((l x)) n (case x (tick -2 0) h t (tick 3 (add h (call sum t)))))\n"


class Example(unittest.TestCase):
    def test_the_example_number_by_number(self):
        told = ask(
            program(REV + SUM),
            run(0, [5, 6], []),
            run(1, [4, 3, 9]),
            ticks(1, [7]),
            counts(1, [7]),
            size(),
            kinds(),
            show(),
        )
        self.assertEqual(told, [
            [2, 16],
            [0, 16, 2, 2, 1, 2, 6, 5],
            [0, 21, 7, 9, 0, 1, 16],
            [2, 11, 3, 9, -2],
            [3, 2, 0, 0, 9, 1, -2, 11, 1, 3],
            [2, 16, 4, 3],
            [2, 2, 1, 1, 1, 1, 1, 0],
            counted(as_bytes(REV + SUM)),
        ])

    def test_the_program_of_a_new_object(self):
        told = ask(show(), kinds(), size(), run(0, [17]), ticks(0, [17]), counts(0, [17]))
        self.assertEqual(told, [
            counted(as_bytes(NEW)),
            [1, 1, 0, 0],
            [1, 1, 0, 0],
            [0, 1, 0, 0, 0, 1, 17],
            [0],
            [0],
        ])


if __name__ == "__main__":
    unittest.main()
