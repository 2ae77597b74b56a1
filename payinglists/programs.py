"""Makes a program of a text, or refuses it."""

from payinglists.kinds import look_through
from payinglists.nodes import Program
from payinglists.reading import Reader, read_functions, signs_of

NEW_TEXT = "(fun f ((n x)) n x)\n"

# Calls are not here: how many arguments they have tells them apart.
FORM_NUMBERS = {
    "number": 0,
    "name": 1,
    "nil": 2,
    "cons": 3,
    "add": 4,
    "sub": 5,
    "if": 6,
    "case": 7,
    "let": 8,
    "tick": 11,
    "share": 12,
}
CALL_WITH_ONE = 9
CALL_WITH_TWO = 10


def program_of(text):
    reader = Reader(signs_of(text))
    functions = read_functions(reader)
    look_through(functions)
    return Program(list(text), functions, reader.nodes)


def new_program():
    return program_of([ord(sign) for sign in NEW_TEXT])


def tick_nodes(program):
    return [node for node in program.nodes if node.word == "tick"]


def form_number(node):
    if node.word == "call":
        return CALL_WITH_ONE if len(node.parts) == 1 else CALL_WITH_TWO
    return FORM_NUMBERS[node.word]


def text_of(program, node):
    return program.text[node.starts_at:node.ends_at]


def function_number(program, node):
    # Labels rise from function to function, and a body has the least of its function's.
    begun = [function for function in program.functions if function.body.label <= node.label]
    return len(begun) - 1
