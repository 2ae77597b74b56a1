"""The program held against another writing of the document, on many made programs."""

import unittest

from payinglists.runs import answers
from tests.asking import (GREAT, answer_after, as_bytes, ask, calls, counted, counts, is_program, kinds, line_of, node,
                          program, run, scaled, show, size, ticks, within)
from tests.making import Maker
from tests.model import model_of, told_line
from tests.test_example import NEW, REV, SUM

SOME_SIGNS = as_bytes(" ()-\n0159abfhlntxy") + [0, 9, 13, 33, 65, 127, 128, 195, 255]


def mixed_calls(maker):
    """1 to 40 calls, good and bad, on programs that change between them."""
    dice = maker.dice
    asked = []
    for _ in range(dice.choice([1, 2, 10, 40])):
        if not asked or dice.random() < 0.15:
            asked.append(program(maker.program(dice.choice([0, 0, 12]))))
        else:
            asked.append(mixed_call(maker))
    # A line has at most 17000 numbers, and may begin with any call.
    dice.shuffle(asked)
    while len(line_of(*asked)) > 17000:
        asked.pop()
    return asked


def mixed_call(maker):
    dice = maker.dice
    g = dice.choice([0, 0, 0, 1, 1, 2, 3, -1, GREAT, -GREAT])
    k = dice.choice([0, 1, 2, 5, 9, 9, -1, 10, GREAT, -GREAT])
    m = dice.choice([0, 1, 2, 3, 5, 10, 30, 399, 400, -1, 401, GREAT, -GREAT])
    label = dice.choice([0, 1, 2, 5, 10, 20, 40, 59, 60, -1, GREAT, -GREAT])
    a = dice.choice([[], [dice.randint(0, 99)], maker.row()])
    b = dice.choice([[], [], [dice.randint(0, 99)], maker.row()])
    return dice.choice([show(), kinds(), size(), node(label), run(g, a, b), ticks(g, a, b), counts(g, a, b),
                        calls(g, a, b), scaled(g, k, a, b), within(g, m, a, b), program(maker.program(12))])


class AgainstModel(unittest.TestCase):
    def same_program(self, text):
        """Whether it's a program, by both alike; then it's looked through."""
        model = model_of(as_bytes(text))
        if model is None:
            self.assertFalse(is_program(text), text)
            return None
        told = ask(program(text), show(), kinds(), size())
        nodes = len(model.depths)
        self.assertEqual(told, [[len(model.heads), nodes], counted(as_bytes(text)), model.told_kinds(), model.told_size()],
                         text)
        return model

    def same_nodes(self, text, model):
        labels = range(-1, len(model.depths) + 1)
        for few in (labels[:35], labels[35:]):
            told = ask(program(text), *[node(label) for label in few])[1:]
            self.assertEqual(told, [model.told_node(label) for label in few], text)

    def same_runs(self, text, model, g, a, b):
        wanted = model.told_runs(g, a, b)
        steps = wanted[0][1] if len(wanted[0]) > 1 else 10
        k = steps % 12 - 1
        told = ask(program(text), run(g, a, b), ticks(g, a, b), counts(g, a, b), calls(g, a, b), scaled(g, k, a, b),
                   within(g, steps - 1, a, b), within(g, steps, a, b), within(g, steps // 2, a, b))[1:]
        wanted.append(model.told_scaled(g, k, a, b))
        wanted.extend(model.told_within(g, m, a, b) for m in (steps - 1, steps, steps // 2))
        self.assertEqual(told, wanted, (text, g, k, a, b))
        return told[0]

    def test_the_model_tells_the_documents_example(self):
        model = model_of(as_bytes(REV + SUM))
        self.assertEqual(model.told_size(), [2, 16, 4, 3])
        self.assertEqual(model.told_runs(0, [5, 6], [])[0], [0, 16, 2, 2, 1, 2, 6, 5])
        self.assertEqual(model.told_runs(1, [4, 3, 9], [])[0], [0, 21, 7, 9, 0, 1, 16])
        self.assertEqual(model.told_runs(1, [7], [])[1:],
                         [[2, 11, 3, 9, -2], [3, 2, 0, 0, 9, 1, -2, 11, 1, 3], [2, 0, 1]])
        self.assertEqual(model.told_scaled(1, 3, [7], []), [0, 3, 9])
        self.assertEqual(model.told_within(1, 5, [7], []), [1, 5, 3, 3])
        self.assertEqual(model.told_node(5), [3, 10] + as_bytes("(cons h y)") + [0])

    def test_made_programs_and_their_runs(self):
        ended = long = refused = 0
        for seed in range(1000):
            maker = Maker(seed)
            text = maker.program(0)
            model = self.same_program(text)
            if model is None:
                continue
            self.same_nodes(text, model)
            for g in range(-1, len(model.heads) + 1):
                rows = [(maker.row(), maker.row())]
                if 0 <= g < len(model.heads):
                    rows.extend(maker.values(model.heads[g][1]) for _ in range(3))
                for a, b in rows:
                    first = self.same_runs(text, model, g, a, b)[0]
                    ended += first == 0
                    long += first == 1
                    refused += first < 0
        self.assertGreater(min(ended, long, refused), 300)

    def test_lines_that_mix_all_eleven_calls(self):
        seen = {number: 0 for number in range(11)}
        refused = {number: 0 for number in range(-5, 0)}
        for seed in range(600):
            asked = mixed_calls(Maker(seed))
            line = line_of(*asked)
            # Not assertEqual: were they unlike, telling how would take it minutes.
            self.assertTrue(answers(line) == told_line(line), line)
            for call, answer in zip(asked, ask(*asked)):
                seen[call[0]] += 1
                if answer[0] < 0:
                    refused[answer[0]] += 1
        self.assertGreater(min(seen.values()), 100)
        self.assertGreater(min(refused.values()), 100)

    def test_programs_made_with_slips(self):
        taken = refused = 0
        for seed in range(6000):
            text = Maker(seed).program(12)
            if self.same_program(text) is None:
                refused += 1
            else:
                taken += 1
        self.assertGreater(min(taken, refused), 800)

    def test_texts_that_differ_by_a_sign(self):
        for text in (NEW, REV + SUM, "(fun g ((l l) (n n)) n (share l n x (let b (if 1 n x) (call g b (tick -2 10)))))\n"):
            signs = as_bytes(text)
            self.assertIsNotNone(model_of(signs))
            for place in range(len(signs) + 1):
                self.same_program(signs[:place] + signs[place + 1:])
                for sign in SOME_SIGNS:
                    self.same_program(signs[:place] + [sign] + signs[place:])
                    self.same_program(signs[:place] + [sign] + signs[place + 1:])

    def test_texts_whose_words_are_changed_about(self):
        for seed in range(3000):
            maker = Maker(seed)
            words = maker.program(0).split(" ")
            place = maker.dice.randrange(len(words))
            other = maker.dice.randrange(len(words))
            words[place] = words[other]
            self.same_program(" ".join(words))

    def test_texts_of_any_bytes(self):
        for seed in range(300):
            dice = Maker(seed).dice
            signs = range(256) if seed % 2 else as_bytes("(( ))\nfun nilcase01-")
            text = [dice.choice(signs) for _ in range(dice.randint(0, 2000))]
            self.assertIsNone(self.same_program(text))
            self.assertIsNone(self.same_program(as_bytes(NEW) + text + [10]))

    def test_the_model_refuses_what_is_too_great(self):
        text = "(fun f ((n x)) n " + "(tick 1 " * 9 + "x" + ")" * 10 + "\n"
        self.assertIsNotNone(self.same_program(text))
        self.assertEqual(answer_after(text, size()), [1, 10, 9, 9])
        self.assertIsNone(self.same_program("(fun f ((n x)) n " + "(tick 1 " * 10 + "x" + ")" * 11 + "\n"))


if __name__ == "__main__":
    unittest.main()
