"""The document once more, written another way, so that the program can be held against it.

A text is read loosely into brackets and must be the same when written out again; "Once" is
looked at by going through all ways; a run goes down into Python's own calls.
"""

import itertools
import re

NAME = re.compile("[a-z]{1,4}")
FORMS = ["cons", "add", "sub", "if", "case", "let"]
RESERVED = {"fun", "nil", "cons", "add", "sub", "if", "case", "let", "call", "tick"}


class Bad(Exception):
    pass


class Long(Exception):
    pass


def need(holds):
    if not holds:
        raise Bad


def brackets(line):
    stack = [[]]
    for token in re.findall("[()]|[^() ]+", line):
        if token == "(":
            stack.append([])
            need(len(stack) < 20)
        elif token == ")":
            need(len(stack) > 1)
            ended = stack.pop()
            stack[-1].append(ended)
        else:
            stack[-1].append(token)
    need(len(stack) == 1 and len(stack[0]) == 1)
    return stack[0][0]


def written(tree):
    return tree if isinstance(tree, str) else "(" + " ".join(written(part) for part in tree) + ")"


def counted(row):
    return [len(row), *row]


def sort_of(tree):
    """The number that node tells first; None of what is no expression."""
    if isinstance(tree, str):
        return 2 if tree == "nil" else 0 if tree.isdigit() else 1
    sorts = {form: place for place, form in enumerate(FORMS, 3)}
    sorts.update({"call": 6 + len(tree), "tick": 11, "share": 12})
    return sorts.get(tree[0]) if tree and isinstance(tree[0], str) else None


def name(word):
    need(isinstance(word, str) and NAME.fullmatch(word) and word not in RESERVED)
    return word


class Model:
    def __init__(self, text):
        """Bad where the text is no program's."""
        self.text = list(text)
        self.depths = []
        self.ticks = []
        self.told_nodes = []
        signs = bytes(text).decode("latin-1")
        need(signs.endswith("\n"))
        lines = signs[:-1].split("\n")
        need(1 <= len(lines) <= 4)
        trees = [brackets(line) for line in lines]
        need([written(tree) for tree in trees] == lines)
        self.heads = [self.head(tree) for tree in trees]
        self.named = {head[0]: place for place, head in enumerate(self.heads)}
        need(len(self.named) == len(trees))
        self.bodies = []
        for head, tree in zip(self.heads, trees):
            names = {parameter: (("parameter", parameter), kind) for kind, parameter in head[1]}
            self.place = len(self.bodies)
            kind, _, body = self.node(tree[4], names, 0)
            need(kind == head[2])
            self.bodies.append(body)
        need(len(self.depths) <= 60)

    def head(self, tree):
        need(isinstance(tree, list) and len(tree) == 5 and tree[0] == "fun")
        need(isinstance(tree[2], list) and len(tree[2]) in (1, 2) and tree[3] in ("n", "l"))
        parameters = []
        for pair in tree[2]:
            need(isinstance(pair, list) and len(pair) == 2 and pair[0] in ("n", "l"))
            parameters.append((pair[0], name(pair[1])))
        need(len({parameter for _, parameter in parameters}) == len(parameters))
        return name(tree[1]), parameters, tree[3]

    def node(self, tree, names, depth):
        """The kind, the ways (each the lists used on it), and (label, word, what else is needed)."""
        need(depth <= 9)
        label = len(self.depths)
        self.depths.append(depth)
        self.told_nodes.append([sort_of(tree), *counted(written(tree).encode("latin-1")), self.place])
        if isinstance(tree, str):
            return self.single(tree, names, label)
        need(tree and isinstance(tree[0], str))
        form = getattr(self, "form_" + tree[0], None) if tree[0].isalpha() else None
        need(form is not None)
        return form(tree[1:], names, label, depth + 1)

    def single(self, word, names, label):
        if word == "nil":
            return "l", {frozenset()}, (label, "give", [])
        if re.fullmatch("0|[1-9][0-9]?", word):
            return "n", {frozenset()}, (label, "give", int(word))
        need(name(word) in names)
        owner, kind = names[word]
        return kind, {frozenset([owner] if kind == "l" else [])}, (label, "name", word)

    def one_after_another(self, *parts):
        ways = {frozenset()}
        for part in parts:
            longer = set()
            for way in ways:
                for further in part:
                    need(not way & further)
                    longer.add(way | further)
            ways = longer
        return ways

    def plain(self, word, kinds, result, trees, names, label, depth):
        need(len(trees) == len(kinds))
        parts = [self.node(tree, names, depth) for tree in trees]
        need([part[0] for part in parts] == kinds)
        return result, self.one_after_another(*[part[1] for part in parts]), (label, word, [part[2] for part in parts])

    def form_cons(self, trees, names, label, depth):
        return self.plain("cons", ["n", "l"], "l", trees, names, label, depth)

    def form_add(self, trees, names, label, depth):
        return self.plain("add", ["n", "n"], "n", trees, names, label, depth)

    def form_sub(self, trees, names, label, depth):
        return self.plain("sub", ["n", "n"], "n", trees, names, label, depth)

    def form_call(self, trees, names, label, depth):
        need(len(trees) in (2, 3) and name(trees[0]) in self.named)
        place = self.named[trees[0]]
        kinds = [kind for kind, _ in self.heads[place][1]]
        kind, ways, node = self.plain("call", kinds, self.heads[place][2], trees[1:], names, label, depth)
        return kind, ways, node + (place,)

    def form_if(self, trees, names, label, depth):
        need(len(trees) == 3)
        first, second, third = [self.node(tree, names, depth) for tree in trees]
        need(first[0] == "n" and second[0] == third[0])
        ways = self.one_after_another(first[1], second[1] | third[1])
        return second[0], ways, (label, "if", first[2], second[2], third[2])

    def bind(self, names, label, *pairs):
        need(len({name(word) for word, _ in pairs}) == len(pairs))
        return {**names, **{word: ((label, word), kind) for word, kind in pairs}}

    def form_case(self, trees, names, label, depth):
        need(len(trees) == 5)
        word, empty, head, tail, full = trees
        need(name(word) in names and names[word][1] == "l")
        first = self.node(empty, names, depth)
        second = self.node(full, self.bind(names, label, (head, "n"), (tail, "l")), depth)
        need(first[0] == second[0])
        ways = self.one_after_another({frozenset([names[word][0]])}, first[1] | second[1])
        return first[0], ways, (label, "case", word, first[2], head, tail, second[2])

    def form_share(self, trees, names, label, depth):
        need(len(trees) == 4)
        word, one, other, tree = trees
        need(name(word) in names and names[word][1] == "l")
        part = self.node(tree, self.bind(names, label, (one, "l"), (other, "l")), depth)
        ways = self.one_after_another({frozenset([names[word][0]])}, part[1])
        return part[0], ways, (label, "share", word, one, other, part[2])

    def form_let(self, trees, names, label, depth):
        need(len(trees) == 3)
        first = self.node(trees[1], names, depth)
        second = self.node(trees[2], self.bind(names, label, (trees[0], first[0])), depth)
        return second[0], self.one_after_another(first[1], second[1]), (label, "let", trees[0], first[2], second[2])

    def form_tick(self, trees, names, label, depth):
        need(len(trees) == 2 and isinstance(trees[0], str) and re.fullmatch("[0-9]|-[1-9]", trees[0]))
        self.ticks.append(label)
        kind, ways, part = self.node(trees[1], names, depth)
        return kind, ways, (label, "tick", int(trees[0]), part)

    def told_size(self):
        return [len(self.heads), len(self.depths), max(self.depths), len(self.ticks)]

    def told_kinds(self):
        told = [len(self.heads)]
        for _, parameters, result in self.heads:
            told += [len(parameters)] + ["nl".index(kind) for kind, _ in parameters] + ["nl".index(result)]
        return told

    def bind_values(self, g, rows):
        if not 0 <= g < len(self.heads):
            return [-3]
        parameters = self.heads[g][1]
        values = {}
        if len(parameters) == 1 and rows[1]:
            return [-2]
        for (kind, parameter), row in zip(parameters, rows):
            if any(not 0 <= number <= 99 for number in row):
                return [-2]
            if len(row) > 12 or kind == "n" and len(row) != 1:
                return [-2]
            values[parameter] = row if kind == "l" else row[0]
        return values

    def told_node(self, label):
        return self.told_nodes[label] if 0 <= label < len(self.told_nodes) else [-4]

    def told_scaled(self, g, k, a, b):
        account, told_ticks, _, _ = self.told_runs(g, a, b)
        if account == [-3] or k not in range(10):
            return [-3] if account == [-3] else [-5]
        if account == [-2]:
            return [-2]
        heights = list(itertools.accumulate((k * paid for paid in told_ticks[2::2]), initial=0))
        return [0, heights[-1], max(heights)]

    def told_within(self, g, m, a, b):
        if 0 <= g < len(self.heads) and m not in range(401):
            return [-5]
        return self.told_runs(g, a, b, m)[0]

    def told_runs(self, g, a, b, allowed=400):
        """What run, ticks, counts and calls answer."""
        values = self.bind_values(g, [list(a), list(b)])
        if isinstance(values, list):
            return [values] * 4
        walk = Walk(self.bodies, [[parameter for _, parameter in head[1]] for head in self.heads], allowed)
        try:
            value = walk.give(self.bodies[g], values)
            ending = [0, 1, value] if isinstance(value, int) else [1, len(value)] + value
            account = [0, walk.steps]
        except Long:
            ending = []
            account = [1, walk.steps]
        heights = [0]
        for _, paid in walk.payments:
            heights.append(heights[-1] + paid)
        told_ticks = [len(walk.payments)] + [number for payment in walk.payments for number in payment]
        told_counts = [len(self.ticks)]
        for label in sorted(self.ticks):
            paid = [payment[1] for payment in walk.payments if payment[0] == label]
            told_counts += [label, len(paid), sum(paid)]
        told_calls = [len(self.heads)] + [walk.called.count(place) for place in range(len(self.heads))]
        return [account + [heights[-1], max(heights)] + ending, told_ticks, told_counts, told_calls]


class Walk:
    def __init__(self, bodies, parameters, allowed):
        self.bodies = bodies
        self.parameters = parameters
        self.allowed = allowed
        self.steps = 0
        self.payments = []
        self.called = []

    def give(self, node, names):
        if self.steps == self.allowed:
            raise Long
        self.steps += 1
        label, word, *rest = node
        if word == "give":
            return rest[0]
        if word == "name":
            return names[rest[0]]
        if word == "if":
            return self.give(rest[1] if self.give(rest[0], names) == 0 else rest[2], names)
        if word == "case":
            listed = names[rest[0]]
            if not listed:
                return self.give(rest[1], names)
            return self.give(rest[4], {**names, rest[2]: listed[0], rest[3]: listed[1:]})
        if word == "share":
            return self.give(rest[3], {**names, rest[1]: names[rest[0]], rest[2]: names[rest[0]]})
        if word == "let":
            return self.give(rest[2], {**names, rest[0]: self.give(rest[1], names)})
        if word == "tick":
            self.payments.append((label, rest[0]))
            return self.give(rest[1], names)
        values = [self.give(part, names) for part in rest[0]]
        if word == "call":
            self.called.append(rest[1])
            return self.give(self.bodies[rest[1]], dict(zip(self.parameters[rest[1]], values)))
        first, second = values
        if word == "add":
            return (first + second) % 100
        if word == "sub":
            return max(0, first - second)
        if len(second) == 40:
            raise Long
        return [first] + second


def model_of(text):
    try:
        return Model(text)
    except Bad:
        return None


# For each call, how many whole numbers and how many rows it is handed.
SHAPES = [(0, 1), (0, 0), (0, 0), (1, 2), (1, 2), (1, 2), (1, 2), (2, 2), (2, 2), (1, 0), (0, 0)]


def told_line(line):
    """What `answers` gives back for a whole line of calls."""
    model = Model(b"(fun f ((n x)) n x)\n")
    left = iter(line)
    told = []
    for call in left:
        numbers, rows = SHAPES[call]
        given = [next(left) for _ in range(numbers)]
        given += [[next(left) for _ in range(next(left))] for _ in range(rows)]
        if call == 0:
            newer = model_of(given[0])
            model = newer or model
            told += counted([len(model.heads), len(model.depths)] if newer else [-1])
        else:
            told += counted(told_call(model, call, given))
    return told


def told_call(model, call, given):
    if call in (3, 4, 5, 6):
        return model.told_runs(*given)[call - 3]
    if call == 1:
        return counted(model.text)
    plain = {2: model.told_kinds, 7: model.told_scaled, 8: model.told_within, 9: model.told_node, 10: model.told_size}
    return plain[call](*given)
