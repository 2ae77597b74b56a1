"""The calls on one object, and what they answer."""

from payinglists.machine import run_of
from payinglists.nodes import LIST, NUMBER
from payinglists.programs import form_number, function_number, new_program, program_of, text_of, tick_nodes
from payinglists.refusals import NoFunction, NoNode, NoProgram, NoValues, OutOfRange

NO_PROGRAM = -1
NO_VALUES = -2
NO_FUNCTION = -3
NO_NODE = -4
OUT_OF_RANGE = -5

GREATEST_NUMBER = 99
LONGEST_GIVEN = 12
MOST_TIMES = 9
STEPS_ALLOWED = 400


class Feed:
    # The calls that are handed in are only read: a row is taken as a copy.
    def __init__(self, calls):
        self.calls = calls
        self.place = 0

    def take_number(self):
        number = self.calls[self.place]
        self.place += 1
        return number

    def take_row(self):
        size = self.take_number()
        row = self.calls[self.place:self.place + size]
        self.place += size
        return row

    def take_two_rows(self):
        first = self.take_row()
        return [first, self.take_row()]

    def has_more(self):
        return self.place < len(self.calls)


class Holder:
    def __init__(self):
        self.program = new_program()


def answers(calls):
    feed = Feed(calls)
    holder = Holder()
    told = []
    while feed.has_more():
        answer = answer_or_refusal(holder, feed)
        told.append(len(answer))
        told.extend(answer)
    return told


def answer_or_refusal(holder, feed):
    number = feed.take_number()
    try:
        return ANSWERS[number](holder, feed)
    except NoProgram:
        return [NO_PROGRAM]
    except NoFunction:
        return [NO_FUNCTION]
    except NoValues:
        return [NO_VALUES]
    except NoNode:
        return [NO_NODE]
    except OutOfRange:
        return [OUT_OF_RANGE]


def answer_program(holder, feed):
    holder.program = program_of(feed.take_row())
    return [len(holder.program.functions), len(holder.program.nodes)]


def answer_show(holder, feed):
    return counted(holder.program.text)


def counted(row):
    return [len(row)] + row


def answer_kinds(holder, feed):
    told = [len(holder.program.functions)]
    for function in holder.program.functions:
        told.extend(counted([parameter.kind for parameter in function.parameters]))
        told.append(function.result)
    return told


def answer_run(holder, feed):
    return account_of(asked_run(holder, feed))


def account_of(run):
    account = [1 if run.is_long else 0, run.steps, run.paid, run.peak]
    if not run.is_long:
        account.extend(told_value(run.given[0]))
    return account


def told_value(value):
    if isinstance(value, int):
        return [NUMBER, 1, value]
    return [LIST] + counted(value)


def answer_ticks(holder, feed):
    run = asked_run(holder, feed)
    told = [len(run.ticks)]
    for tick in run.ticks:
        told.extend(tick)
    return told


def answer_counts(holder, feed):
    run = asked_run(holder, feed)
    nodes = tick_nodes(holder.program)
    told = [len(nodes)]
    for node in nodes:
        payments = [tick[1] for tick in run.ticks if tick[0] == node.label]
        told.extend([node.label, len(payments), sum(payments)])
    return told


def answer_calls(holder, feed):
    run = asked_run(holder, feed)
    return counted([run.times_called.get(function.name, 0) for function in holder.program.functions])


def answer_scaled(holder, feed):
    asked = feed.take_number()
    times = feed.take_number()
    rows = feed.take_two_rows()
    function = function_of(holder.program, asked)
    refuse_outside(times, MOST_TIMES)
    run = run_on(holder.program, function, rows, STEPS_ALLOWED)
    # The peak is 0 at least and so are the times: what was greatest stays greatest.
    return [0, run.paid * times, run.peak * times]


def answer_within(holder, feed):
    asked = feed.take_number()
    allowed = feed.take_number()
    rows = feed.take_two_rows()
    function = function_of(holder.program, asked)
    refuse_outside(allowed, STEPS_ALLOWED)
    return account_of(run_on(holder.program, function, rows, allowed))


def answer_node(holder, feed):
    program = holder.program
    node = node_of(program, feed.take_number())
    return [form_number(node)] + counted(text_of(program, node)) + [function_number(program, node)]


def answer_size(holder, feed):
    program = holder.program
    deepest = max([node.depth for node in program.nodes])
    return [len(program.functions), len(program.nodes), deepest, len(tick_nodes(program))]


def asked_run(holder, feed):
    # Here as elsewhere all of a call is taken first: where it's refused, the next one must still be found.
    asked = feed.take_number()
    rows = feed.take_two_rows()
    function = function_of(holder.program, asked)
    return run_on(holder.program, function, rows, STEPS_ALLOWED)


def run_on(program, function, rows, allowed):
    return run_of(program.functions, function, values_of(function, rows), allowed)


def function_of(program, asked):
    if asked < 0 or asked >= len(program.functions):
        raise NoFunction()
    return program.functions[asked]


def node_of(program, label):
    if label < 0 or label >= len(program.nodes):
        raise NoNode()
    return program.nodes[label]


def refuse_outside(number, greatest):
    if number < 0 or number > greatest:
        raise OutOfRange()


def values_of(function, rows):
    if len(function.parameters) == 1 and rows[1]:
        raise NoValues()
    return [value_of(parameter.kind, row) for parameter, row in zip(function.parameters, rows)]


def value_of(kind, row):
    for number in row:
        if number < 0 or number > GREATEST_NUMBER:
            raise NoValues()
    if kind == LIST:
        if len(row) > LONGEST_GIVEN:
            raise NoValues()
        return row
    if len(row) != 1:
        raise NoValues()
    return row[0]


ANSWERS = {
    0: answer_program,
    1: answer_show,
    2: answer_kinds,
    3: answer_run,
    4: answer_ticks,
    5: answer_counts,
    6: answer_calls,
    7: answer_scaled,
    8: answer_within,
    9: answer_node,
    10: answer_size,
}
