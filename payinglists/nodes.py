"""What a program is made of: functions, and the nodes of their bodies."""

# The kinds are the numbers by which they are answered.
NUMBER = 0
LIST = 1


class Node:
    # A node's word is "number", "name" or "nil", or the first word in its brackets.
    # Names that a form tells (X, Y, Z, H, T, F) are no nodes: they stand apart from the parts.
    # It stands in the program's text from starts_at up to, but without, ends_at.
    def __init__(self, label, depth, starts_at):
        self.label = label
        self.depth = depth
        self.starts_at = starts_at
        self.ends_at = starts_at
        self.word = ""
        self.number = 0
        self.names = []
        self.parts = []


class Parameter:
    def __init__(self, kind, name):
        self.kind = kind
        self.name = name


class Function:
    def __init__(self, name, parameters, result, body):
        self.name = name
        self.parameters = parameters
        self.result = result
        self.body = body


class Program:
    # The nodes stand by their labels, over all functions.
    def __init__(self, text, functions, nodes):
        self.text = text
        self.functions = functions
        self.nodes = nodes


def by_name(functions):
    named = {}
    for function in functions:
        named[function.name] = function
    return named
