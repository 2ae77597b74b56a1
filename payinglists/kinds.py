"""Looks whether a program's kinds are as they must be, and whether each list is used once."""

from payinglists.nodes import LIST, NUMBER, by_name
from payinglists.refusals import NoProgram


class Seen:
    # used: the names from outside a node that stand for lists and are used on some way through it.
    def __init__(self, kind, used):
        self.kind = kind
        self.used = used


def look_through(functions):
    named = by_name(functions)
    for function in functions:
        bound = {}
        for parameter in function.parameters:
            bound[parameter.name] = parameter.kind
        see_as(function.result, function.body, bound, named)


def see(node, bound, named):
    return SIGHTS[node.word](node, bound, named)


def see_as(kind, node, bound, named):
    seen = see(node, bound, named)
    if seen.kind != kind:
        raise NoProgram()
    return seen.used


def see_parts(wanted, node, bound, named):
    if len(wanted) != len(node.parts):
        raise NoProgram()
    used = {}
    for kind, part in zip(wanted, node.parts):
        used = both(used, see_as(kind, part, bound, named))
    return used


def both(first, second):
    for name in first:
        if name in second:
            raise NoProgram()
    return either(first, second)


def either(first, second):
    used = dict(first)
    used.update(second)
    return used


def without(used, names):
    left = {}
    for name in used:
        if name not in names:
            left[name] = True
    return left


def see_number(node, bound, named):
    return Seen(NUMBER, {})


def see_nil(node, bound, named):
    return Seen(LIST, {})


def see_name(node, bound, named):
    return use(node.names[0], bound)


def use(name, bound):
    if name not in bound:
        raise NoProgram()
    if bound[name] == LIST:
        return Seen(LIST, {name: True})
    return Seen(NUMBER, {})


def use_list(name, bound):
    seen = use(name, bound)
    if seen.kind != LIST:
        raise NoProgram()
    return seen.used


def see_cons(node, bound, named):
    return Seen(LIST, see_parts([NUMBER, LIST], node, bound, named))


def see_reckoning(node, bound, named):
    return Seen(NUMBER, see_parts([NUMBER, NUMBER], node, bound, named))


def see_if(node, bound, named):
    used = see_as(NUMBER, node.parts[0], bound, named)
    second = see(node.parts[1], bound, named)
    third = see_as(second.kind, node.parts[2], bound, named)
    return Seen(second.kind, both(used, either(second.used, third)))


def see_case(node, bound, named):
    used = use_list(node.names[0], bound)
    empty = see(node.parts[0], bound, named)
    within = bind_pair(node, NUMBER, bound)
    full = see_as(empty.kind, node.parts[1], within, named)
    return Seen(empty.kind, both(used, either(empty.used, without(full, node.names[1:]))))


def see_share(node, bound, named):
    used = use_list(node.names[0], bound)
    within = bind_pair(node, LIST, bound)
    part = see(node.parts[0], within, named)
    return Seen(part.kind, both(used, without(part.used, node.names[1:])))


def bind_pair(node, kind, bound):
    # Case and share alike tell two unlike names behind the list's, the second for a list.
    if node.names[1] == node.names[2]:
        raise NoProgram()
    within = dict(bound)
    within[node.names[1]] = kind
    within[node.names[2]] = LIST
    return within


def see_let(node, bound, named):
    first = see(node.parts[0], bound, named)
    within = dict(bound)
    within[node.names[0]] = first.kind
    second = see(node.parts[1], within, named)
    return Seen(second.kind, both(first.used, without(second.used, node.names)))


def see_call(node, bound, named):
    if node.names[0] not in named:
        raise NoProgram()
    called = named[node.names[0]]
    wanted = [parameter.kind for parameter in called.parameters]
    return Seen(called.result, see_parts(wanted, node, bound, named))


def see_tick(node, bound, named):
    return see(node.parts[0], bound, named)


SIGHTS = {
    "number": see_number,
    "name": see_name,
    "nil": see_nil,
    "cons": see_cons,
    "add": see_reckoning,
    "sub": see_reckoning,
    "if": see_if,
    "case": see_case,
    "let": see_let,
    "call": see_call,
    "tick": see_tick,
    "share": see_share,
}
