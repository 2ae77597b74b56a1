"""Reads a text's functions and nodes, sign by sign; the kinds are looked at elsewhere."""

from payinglists.nodes import LIST, NUMBER, Function, Node, Parameter
from payinglists.refusals import NoProgram

SIGNS = "\n ()-0123456789abcdefghijklmnopqrstuvwxyz"
WORD_ENDS = "\n ()"
RESERVED = ("fun", "nil", "cons", "add", "sub", "if", "case", "let", "call", "tick")

# What stands behind a form's word: N a name, K a tick's number, E an expression.
FORMS = {
    "cons": "EE",
    "add": "EE",
    "sub": "EE",
    "if": "EEE",
    "case": "NENNE",
    "let": "NEE",
    "call": "NE",
    "tick": "KE",
    "share": "NNNE",
}

MOST_FUNCTIONS = 4
MOST_NODES = 60
DEEPEST = 9
LONGEST_NAME = 4


class Reader:
    def __init__(self, signs):
        self.signs = signs
        self.place = 0
        self.nodes = []

    def sees(self, signs):
        return self.signs.startswith(signs, self.place)

    def take(self, signs):
        if not self.sees(signs):
            raise NoProgram()
        self.place += len(signs)

    def take_word(self):
        start = self.place
        while self.place < len(self.signs) and self.signs[self.place] not in WORD_ENDS:
            self.place += 1
        return self.signs[start:self.place]

    def at_end(self):
        return self.place == len(self.signs)


def signs_of(text):
    # No program holds another sign than these, so any other byte is refused at once.
    known = {}
    for sign in SIGNS:
        known[ord(sign)] = sign
    signs = []
    for byte in text:
        if byte not in known:
            raise NoProgram()
        signs.append(known[byte])
    return "".join(signs)


def read_functions(reader):
    functions = []
    while not reader.at_end():
        if len(functions) == MOST_FUNCTIONS:
            raise NoProgram()
        functions.append(read_function(reader))
    if not functions:
        raise NoProgram()
    refuse_doubles([function.name for function in functions])
    return functions


def read_function(reader):
    reader.take("(fun ")
    name = read_name(reader)
    reader.take(" (")
    parameters = [read_parameter(reader)]
    if reader.sees(" "):
        reader.take(" ")
        parameters.append(read_parameter(reader))
    refuse_doubles([parameter.name for parameter in parameters])
    reader.take(") ")
    result = read_kind(reader)
    reader.take(" ")
    body = read_expression(reader, 0)
    reader.take(")\n")
    return Function(name, parameters, result, body)


def read_parameter(reader):
    reader.take("(")
    kind = read_kind(reader)
    reader.take(" ")
    name = read_name(reader)
    reader.take(")")
    return Parameter(kind, name)


def refuse_doubles(names):
    if len(set(names)) != len(names):
        raise NoProgram()


def read_kind(reader):
    word = reader.take_word()
    if word == "n":
        return NUMBER
    if word == "l":
        return LIST
    raise NoProgram()


def read_name(reader):
    word = reader.take_word()
    if not is_name(word):
        raise NoProgram()
    return word


def is_name(word):
    return word.isalpha() and len(word) <= LONGEST_NAME and word not in RESERVED


def is_number(word):
    return word.isdigit() and len(word) <= 2 and word == str(int(word))


def read_tick_number(reader):
    word = reader.take_word()
    digits = word[1:] if word.startswith("-") else word
    if len(digits) != 1 or not digits.isdigit() or word == "-0":
        raise NoProgram()
    return int(word)


def read_expression(reader, depth):
    # Looked at ahead of what is within, so that no text is followed deeper than a program may be.
    if depth > DEEPEST or len(reader.nodes) == MOST_NODES:
        raise NoProgram()
    node = Node(len(reader.nodes), depth, reader.place)
    reader.nodes.append(node)
    if reader.sees("("):
        read_form(reader, node)
    else:
        read_single(reader, node)
    node.ends_at = reader.place
    return node


def read_single(reader, node):
    word = reader.take_word()
    if word == "nil":
        node.word = "nil"
    elif is_number(word):
        node.word = "number"
        node.number = int(word)
    elif is_name(word):
        node.word = "name"
        node.names.append(word)
    else:
        raise NoProgram()


def read_form(reader, node):
    reader.take("(")
    node.word = reader.take_word()
    if node.word not in FORMS:
        raise NoProgram()
    for sort in FORMS[node.word]:
        reader.take(" ")
        read_piece(reader, node, sort)
    if node.word == "call" and reader.sees(" "):
        reader.take(" ")
        read_piece(reader, node, "E")
    reader.take(")")


def read_piece(reader, node, sort):
    if sort == "N":
        node.names.append(read_name(reader))
    elif sort == "K":
        node.number = read_tick_number(reader)
    else:
        node.parts.append(read_expression(reader, node.depth + 1))
