"""The document's example, and the program of a new object."""

import unittest

from tests.asking import (as_bytes, ask, calls, counted, counts, kinds, node, program, run, scaled, show, size, ticks,
                          told_node, within)

NEW = "(fun f ((n x)) n x)\n"
REV = "(fun rev ((l x) (l y)) l (case x y h t (tick 1 (call rev t (cons h y)))))\n"
SUM = "(fun sum ((l x)) n (case x (tick -2 0) h t (tick 3 (add h (call sum t)))))\n"


class Example(unittest.TestCase):
    def test_the_example_number_by_number(self):
        told = ask(
            program(REV + SUM),
            run(0, [5, 6], []),
            run(1, [4, 3, 9]),
            ticks(1, [7]),
            counts(1, [7]),
            calls(1, [7]),
            scaled(1, 3, [7]),
            within(1, 5, [7]),
            node(5),
            size(),
            kinds(),
            show(),
        )
        self.assertEqual(told, [
            [2, 16],
            [0, 16, 2, 2, 1, 2, 6, 5],
            [0, 21, 7, 9, 0, 1, 16],
            [2, 11, 3, 9, -2],
            [3, 2, 0, 0, 9, 1, -2, 11, 1, 3],
            [2, 0, 1],
            [0, 3, 9],
            [1, 5, 3, 3],
            [3, 10] + as_bytes("(cons h y)") + [0],
            [2, 16, 4, 3],
            [2, 2, 1, 1, 1, 1, 1, 0],
            counted(as_bytes(REV + SUM)),
        ])

    def test_the_program_of_a_new_object(self):
        told = ask(show(), kinds(), size(), run(0, [17]), ticks(0, [17]), counts(0, [17]), calls(0, [17]),
                   scaled(0, 9, [17]), within(0, 1, [17]), within(0, 0, [17]), node(0), node(1))
        self.assertEqual(told, [
            counted(as_bytes(NEW)),
            [1, 1, 0, 0],
            [1, 1, 0, 0],
            [0, 1, 0, 0, 0, 1, 17],
            [0],
            [0],
            [1, 0],
            [0, 0, 0],
            [0, 1, 0, 0, 0, 1, 17],
            [1, 0, 0, 0],
            told_node(1, "x", 0),
            [-4],
        ])


if __name__ == "__main__":
    unittest.main()
