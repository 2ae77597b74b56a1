"""The calls on one object, and what they answer."""

from payinglists.machine import run_of
from payinglists.nodes import LIST, NUMBER
from payinglists.programs import new_program, program_of, tick_nodes
from payinglists.refusals import NoFunction, NoProgram, NoValues

NO_PROGRAM = -1
NO_VALUES = -2
NO_FUNCTION = -3

GREATEST_NUMBER = 99
LONGEST_GIVEN = 12


class Feed:
    # The calls that are handed in are only read: a row is taken as a copy.
    def __init__(self, calls):
        self.calls = calls
        self.place = 0

    def take_number(self):
        number = self.calls[self.place]
        self.place += 1
        return number

    def take_row(self):
        size = self.take_number()
        row = self.calls[self.place:self.place + size]
        self.place += size
        return row

    def has_more(self):
        return self.place < len(self.calls)


class Holder:
    def __init__(self):
        self.program = new_program()


def answers(calls):
    feed = Feed(calls)
    holder = Holder()
    told = []
    while feed.has_more():
        answer = answer_or_refusal(holder, feed)
        told.append(len(answer))
        told.extend(answer)
    return told


def answer_or_refusal(holder, feed):
    number = feed.take_number()
    try:
        return ANSWERS[number](holder, feed)
    except NoProgram:
        return [NO_PROGRAM]
    except NoFunction:
        return [NO_FUNCTION]
    except NoValues:
        return [NO_VALUES]


def answer_program(holder, feed):
    holder.program = program_of(feed.take_row())
    return [len(holder.program.functions), len(holder.program.nodes)]


def answer_show(holder, feed):
    return counted(holder.program.text)


def counted(row):
    return [len(row)] + row


def answer_kinds(holder, feed):
    told = [len(holder.program.functions)]
    for function in holder.program.functions:
        told.extend(counted([parameter.kind for parameter in function.parameters]))
        told.append(function.result)
    return told


def answer_run(holder, feed):
    run = asked_run(holder, feed)
    account = [1 if run.is_long else 0, run.steps, run.paid, run.peak]
    if not run.is_long:
        account.extend(told_value(run.given[0]))
    return account


def told_value(value):
    if isinstance(value, int):
        return [NUMBER, 1, value]
    return [LIST] + counted(value)


def answer_ticks(holder, feed):
    run = asked_run(holder, feed)
    told = [len(run.ticks)]
    for tick in run.ticks:
        told.extend(tick)
    return told


def answer_counts(holder, feed):
    run = asked_run(holder, feed)
    nodes = tick_nodes(holder.program)
    told = [len(nodes)]
    for node in nodes:
        payments = [tick[1] for tick in run.ticks if tick[0] == node.label]
        told.extend([node.label, len(payments), sum(payments)])
    return told


def answer_size(holder, feed):
    program = holder.program
    deepest = max([node.depth for node in program.nodes])
    return [len(program.functions), len(program.nodes), deepest, len(tick_nodes(program))]


def asked_run(holder, feed):
    # All of the call is taken first: where it's refused, the next call must still be found.
    asked = feed.take_number()
    first = feed.take_row()
    second = feed.take_row()
    functions = holder.program.functions
    function = function_of(functions, asked)
    return run_of(functions, function, values_of(function, first, second))


def function_of(functions, asked):
    if asked < 0 or asked >= len(functions):
        raise NoFunction()
    return functions[asked]


def values_of(function, first, second):
    if len(function.parameters) == 1 and second:
        raise NoValues()
    return [value_of(parameter.kind, row) for parameter, row in zip(function.parameters, [first, second])]


def value_of(kind, row):
    for number in row:
        if number < 0 or number > GREATEST_NUMBER:
            raise NoValues()
    if kind == LIST:
        if len(row) > LONGEST_GIVEN:
            raise NoValues()
        return row
    if len(row) != 1:
        raise NoValues()
    return row[0]


ANSWERS = {
    0: answer_program,
    1: answer_show,
    2: answer_kinds,
    3: answer_run,
    4: answer_ticks,
    5: answer_counts,
    10: answer_size,
}
