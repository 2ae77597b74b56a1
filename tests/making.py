"""Makes programs, nearly right ones among them, from a seed: the same ones each time."""

import random

NAMES = ["a", "b", "x", "y", "hd", "tl", "n", "l"]


class Maker:
    def __init__(self, seed):
        self.dice = random.Random(seed)
        self.heads = []
        self.slip = 0

    def program(self, slip):
        """A program's text; with slip, one in so many choices of a name or kind is made blindly."""
        self.slip = slip
        self.heads = []
        for word in self.dice.sample(["f", "g", "go", "sum"], self.dice.randint(1, 3)):
            words = self.dice.sample(NAMES, self.dice.randint(1, 2))
            self.heads.append((word, [(self.dice.choice("nl"), name) for name in words], self.dice.choice("nl")))
        return "".join(self.function(*head) for head in self.heads)

    def function(self, word, parameters, result):
        numbers = [name for kind, name in parameters if kind == "n"]
        lists = [name for kind, name in parameters if kind == "l"]
        body, _ = self.expression(result, numbers, lists, self.dice.randint(1, 4))
        told = " ".join(f"({kind} {name})" for kind, name in parameters)
        return f"(fun {word} ({told}) {result} {body})\n"

    def slips(self):
        return self.slip and self.dice.randrange(self.slip) == 0

    def expression(self, kind, numbers, lists, depth):
        """An expression, and the lists that are not used up by it."""
        if self.slips():
            kind = self.dice.choice("nl")
        if depth == 0 or self.dice.random() < 0.1:
            return self.single(kind, numbers, lists)
        makers = [self.choice, self.choice, self.let, self.tick, self.tick]
        makers += [self.call] * 2 if any(head[2] == kind for head in self.heads) else []
        makers += [self.case, self.case, self.case, self.share] if lists else []
        makers += [self.reckoning] * 2 if kind == "n" else [self.cons] * 2
        return self.dice.choice(makers)(kind, numbers, lists, depth - 1)

    def single(self, kind, numbers, lists):
        if self.slips():
            return self.dice.choice(NAMES), lists
        if kind == "n":
            if numbers and self.dice.random() < 0.7:
                return self.dice.choice(numbers), lists
            return str(self.dice.choice([0, 1, 2, 9, 10, 50, 99])), lists
        if not lists or self.dice.random() < 0.2:
            return "nil", lists
        name = self.dice.choice(lists)
        return name, [other for other in lists if other != name]

    def parts(self, kinds, numbers, lists, depth):
        told = []
        for kind in kinds:
            part, lists = self.expression(kind, numbers, lists, depth)
            told.append(part)
        return " ".join(told), lists

    def cons(self, kind, numbers, lists, depth):
        told, lists = self.parts("nl", numbers, lists, depth)
        return f"(cons {told})", lists

    def reckoning(self, kind, numbers, lists, depth):
        told, lists = self.parts("nn", numbers, lists, depth)
        return f"({self.dice.choice(['add', 'sub'])} {told})", lists

    def call(self, kind, numbers, lists, depth):
        word, parameters, _ = self.dice.choice([head for head in self.heads if head[2] == kind])
        told, lists = self.parts([kind for kind, _ in parameters], numbers, lists, depth)
        return f"(call {word} {told})", lists

    def tick(self, kind, numbers, lists, depth):
        told, lists = self.expression(kind, numbers, lists, depth)
        return f"(tick {self.dice.randint(-9, 9)} {told})", lists

    def choice(self, kind, numbers, lists, depth):
        first, lists = self.expression("n", numbers, lists, depth)
        second, left = self.expression(kind, numbers, lists, depth)
        third, right = self.expression(kind, numbers, lists, depth)
        return f"(if {first} {second} {third})", [name for name in left if name in right]

    def within(self, kind, numbers, lists, bound, depth):
        """An expression in which names are bound (name, kind); the lists from outside that are left."""
        words = [name for name, _ in bound]
        inner_numbers = [name for name in numbers if name not in words] + [name for name, sort in bound if sort == "n"]
        inner_lists = [name for name in lists if name not in words] + [name for name, sort in bound if sort == "l"]
        told, left = self.expression(kind, inner_numbers, inner_lists, depth)
        return told, [name for name in lists if name in words or name in left]

    def let(self, kind, numbers, lists, depth):
        sort = self.dice.choice("nl")
        word = self.dice.choice(NAMES)
        first, lists = self.expression(sort, numbers, lists, depth)
        second, lists = self.within(kind, numbers, lists, [(word, sort)], depth)
        return f"(let {word} {first} {second})", lists

    def case(self, kind, numbers, lists, depth):
        listed = self.dice.choice(lists)
        lists = [name for name in lists if name != listed]
        head, tail = self.two_names()
        first, left = self.expression(kind, numbers, lists, depth)
        second, right = self.within(kind, numbers, lists, [(head, "n"), (tail, "l")], depth)
        return f"(case {listed} {first} {head} {tail} {second})", [name for name in left if name in right]

    def share(self, kind, numbers, lists, depth):
        listed = self.dice.choice(lists)
        lists = [name for name in lists if name != listed]
        one, other = self.two_names()
        told, lists = self.within(kind, numbers, lists, [(one, "l"), (other, "l")], depth)
        return f"(share {listed} {one} {other} {told})", lists

    def two_names(self):
        if self.slips():
            return self.dice.choice(NAMES), self.dice.choice(NAMES)
        return self.dice.sample(NAMES, 2)

    def row(self):
        many = self.dice.choice([0, 1, 1, 1, 2, 3, 12, 13])
        return [self.dice.choice([0, 0, 1, 2, 3, 50, 98, 99, self.dice.randint(-1, 100)]) for _ in range(many)]

    def values(self, parameters):
        rows = [[self.dice.randint(0, 99) for _ in range(1 if kind == "n" else self.dice.randint(0, 12))]
                for kind, _ in parameters]
        return rows if len(rows) == 2 else rows + [[]]
