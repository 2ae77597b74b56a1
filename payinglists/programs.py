"""Makes a program of a text, or refuses it."""

from payinglists.kinds import look_through
from payinglists.nodes import Program
from payinglists.reading import Reader, read_functions, signs_of

NEW_TEXT = "(fun f ((n x)) n x)\n"


def program_of(text):
    reader = Reader(signs_of(text))
    functions = read_functions(reader)
    look_through(functions)
    return Program(list(text), functions, reader.nodes)


def new_program():
    return program_of([ord(sign) for sign in NEW_TEXT])


def tick_nodes(program):
    return [node for node in program.nodes if node.word == "tick"]
