"""Runs a function step by step, and keeps what it pays."""

from payinglists.nodes import by_name

LONGEST_LIST = 40


class Task:
    # A node to come to or, where its parts have been gone through, to bring to its end.
    def __init__(self, node, bound, parts_done):
        self.node = node
        self.bound = bound
        self.parts_done = parts_done


class Run:
    # Calls may stand hundreds deep in one another, so what is still to be done
    # is kept here, the next task last, and not in calls of Python's.
    def __init__(self, functions, allowed):
        self.named = by_name(functions)
        self.allowed = allowed
        self.tasks = []
        self.given = []
        self.steps = 0
        self.paid = 0
        self.peak = 0
        self.ticks = []
        self.times_called = {}
        self.is_long = False

    def come_to(self, node, bound):
        self.tasks.append(Task(node, bound, False))

    def come_back_to(self, node, bound):
        self.tasks.append(Task(node, bound, True))

    def pay(self, node):
        self.paid += node.number
        self.peak = max(self.peak, self.paid)
        self.ticks.append((node.label, node.number))

    def note_call(self, name):
        self.times_called[name] = self.times_called.get(name, 0) + 1


def run_of(functions, function, values, allowed):
    run = Run(functions, allowed)
    run.come_to(function.body, bound_by(function, values))
    while run.tasks and not run.is_long:
        do(run, run.tasks.pop())
    return run


def bound_by(function, values):
    bound = {}
    for parameter, value in zip(function.parameters, values):
        bound[parameter.name] = value
    return bound


def do(run, task):
    if task.parts_done:
        ENDS[task.node.word](run, task.node, task.bound)
    elif run.steps == run.allowed:
        run.is_long = True
    else:
        run.steps += 1
        BEGINNINGS[task.node.word](run, task.node, task.bound)


def begin_number(run, node, bound):
    run.given.append(node.number)


def begin_name(run, node, bound):
    run.given.append(bound[node.names[0]])


def begin_nil(run, node, bound):
    run.given.append([])


def begin_parts(run, node, bound):
    run.come_back_to(node, bound)
    for part in reversed(node.parts):
        run.come_to(part, bound)


def begin_first_part(run, node, bound):
    # Of if and let, what comes behind the first part hangs on what that gives.
    run.come_back_to(node, bound)
    run.come_to(node.parts[0], bound)


def begin_case(run, node, bound):
    value = bound[node.names[0]]
    if not value:
        run.come_to(node.parts[0], bound)
    else:
        run.come_to(node.parts[1], bind_pair(node, value[0], value[1:], bound))


def begin_share(run, node, bound):
    value = bound[node.names[0]]
    run.come_to(node.parts[0], bind_pair(node, value, value, bound))


def bind_pair(node, first, second, bound):
    within = dict(bound)
    within[node.names[1]] = first
    within[node.names[2]] = second
    return within


def begin_tick(run, node, bound):
    run.pay(node)
    run.come_to(node.parts[0], bound)


def end_cons(run, node, bound):
    rest = run.given.pop()
    number = run.given.pop()
    if len(rest) == LONGEST_LIST:
        run.is_long = True
    else:
        run.given.append([number] + rest)


def end_add(run, node, bound):
    second = run.given.pop()
    first = run.given.pop()
    run.given.append((first + second) % 100)


def end_sub(run, node, bound):
    second = run.given.pop()
    first = run.given.pop()
    run.given.append(max(first - second, 0))


def end_if(run, node, bound):
    if run.given.pop() == 0:
        run.come_to(node.parts[1], bound)
    else:
        run.come_to(node.parts[2], bound)


def end_let(run, node, bound):
    within = dict(bound)
    within[node.names[0]] = run.given.pop()
    run.come_to(node.parts[1], within)


def end_call(run, node, bound):
    called = run.named[node.names[0]]
    values = []
    while len(values) < len(node.parts):
        values.insert(0, run.given.pop())
    run.note_call(called.name)
    run.come_to(called.body, bound_by(called, values))


BEGINNINGS = {
    "number": begin_number,
    "name": begin_name,
    "nil": begin_nil,
    "cons": begin_parts,
    "add": begin_parts,
    "sub": begin_parts,
    "if": begin_first_part,
    "case": begin_case,
    "let": begin_first_part,
    "call": begin_parts,
    "tick": begin_tick,
    "share": begin_share,
}

ENDS = {
    "cons": end_cons,
    "add": end_add,
    "sub": end_sub,
    "if": end_if,
    "let": end_let,
    "call": end_call,
}
