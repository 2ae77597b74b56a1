"""Writes lines of calls as numbers, and takes their answers apart."""

from payinglists.runs import answers

GREAT = 10 ** 18


def as_bytes(text):
    return list(text.encode("ascii")) if isinstance(text, str) else list(text)


def counted(row):
    return [len(row)] + list(row)


def program(text):
    return [0] + counted(as_bytes(text))


def show():
    return [1]


def kinds():
    return [2]


def run(g, a=(), b=()):
    return [3, g] + counted(a) + counted(b)


def ticks(g, a=(), b=()):
    return [4, g] + counted(a) + counted(b)


def counts(g, a=(), b=()):
    return [5, g] + counted(a) + counted(b)


def calls(g, a=(), b=()):
    return [6, g] + counted(a) + counted(b)


def scaled(g, k, a=(), b=()):
    return [7, g, k] + counted(a) + counted(b)


def within(g, m, a=(), b=()):
    return [8, g, m] + counted(a) + counted(b)


def node(label):
    return [9, label]


def size():
    return [10]


def told_node(sort, text, function):
    """What node answers of a node of this text."""
    return [sort] + counted(as_bytes(text)) + [function]


def line_of(*asked):
    return [number for call in asked for number in call]


def ask(*asked):
    told = answers(line_of(*asked))
    parted = []
    place = 0
    while place < len(told):
        end = place + 1 + told[place]
        parted.append(told[place + 1:end])
        place = end
    if place != len(told) or len(parted) != len(asked):
        raise AssertionError(f"the answers don't fall into {len(asked)} parts: {told}")
    return parted


def answer_after(text, call):
    """What the call answers on the program of this text."""
    first, second = ask(program(text), call)
    if first == [-1]:
        raise AssertionError(f"no program: {text!r}")
    return second


def is_program(text):
    """Whether the text is taken; what is shown behind must tell the same."""
    shown_before, told, shown = ask(show(), program(text), show())
    if told == [-1]:
        if shown != shown_before:
            raise AssertionError("a refused program was kept")
        return False
    if shown != counted(as_bytes(text)):
        raise AssertionError("what is shown is not the program's text")
    return True
