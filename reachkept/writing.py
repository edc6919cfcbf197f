"""Which ops do what expressions and statements tell.

What is still to be written is kept in a list of tasks, not in calls of Python in calls, so that
programs may be as deep as they like. A task is a tuple: ("statement", one); ("expression", one,
target, free), where the register target gets the value, and those from free on are free to be used;
("op", op); or ("mark", label).
"""

from reachkept.drafts import Draft
from reachkept.shapes import MAKES, pieces


def write(draft, drafts):
    """Write the ops of a Draft; put new Drafts for the makes in it behind the list of drafts."""
    agenda = (_statements(draft.body) + [("op", ("end",))])[::-1]
    while agenda:
        task = agenda.pop()
        if task[0] == "op":
            draft.ops.append(task[1])
        elif task[0] == "mark":
            draft.mark(task[1])
        elif task[0] == "statement":
            action = STATEMENT_TASKS[task[1][0]]
            agenda.extend(action(draft, task[1])[::-1])
        else:
            _, one, target, free = task
            draft.widen(target + 1)
            agenda.extend(_of_expression(draft, drafts, one, target, free)[::-1])


def _statements(body):
    return [("statement", one) for one in body]


def _of_expression(draft, drafts, one, target, free):
    """Return the tasks of an expression, the last of which gives the target its value."""
    word = one[0]
    if word in ("integer", "word"):
        return [("op", ("keep", target, one[1]))]
    if word == "nothing":
        return [("op", ("keep", target, None))]
    if word == "name":
        return [("op", draft.reading(one[1], target))]
    if word in MAKES:
        inner = Draft(len(drafts), word, one[1], one[2], draft, {})
        drafts.append(inner)
        return [("op", ("close", target, inner.index))]
    if word == "cell":
        return _cell(draft, one, target, free)
    action = EXPRESSION_OPS[word]
    tasks, places = _operands(draft, _parts_of(one), free)
    return tasks + [("op", action(one, target, places))]


def _parts_of(one):
    """Return the list of the expressions that stand directly in an expression."""
    parts = []
    for form, part in pieces("expression", one):
        if form == "expression":
            parts.append(part)
        if form == "expressions":
            parts.extend(list(part))
    return parts


def _operands(draft, parts, free):
    """Return the tasks that work out expressions, and the list of the registers where their values are.

    A name that cannot get another value while what stands behind it is worked out is taken where it is.
    """
    tasks = []
    places = []
    for index, part in enumerate(parts):
        if part[0] == "name" and draft.has_own(part[1]) and all([_is_quiet(one) for one in parts[index + 1:]]):
            places.append(draft.names.index(part[1]))
        else:
            places.append(free)
            tasks.append(("expression", part, free, free))
            free += 1
    return tasks, places


def _is_quiet(one):
    """Tell whether no body is run while an expression is worked out."""
    waiting = [("expression", one)]
    while waiting:
        form, part = waiting.pop()
        if form == "expression" and part[0] in ("call", "next"):
            return False
        if form != "expression" or part[0] not in MAKES:
            waiting.extend(pieces(form, part))
    return True


def _cell(draft, one, target, free):
    # The cell is made in a free register: the target may be a name that the fields still need.
    draft.widen(free + 1)
    tasks, places = _operands(draft, [part for _, part in one[1]], free + 1)
    tasks.append(("op", ("cell", free)))
    for row, place in zip(one[1], places):
        tasks.append(("op", ("store", free, row[0], place)))
    if target != free:
        tasks.append(("op", ("move", target, free)))
    return tasks


def _work(one, target, places):
    return ("work", target, one[1], places[0], places[1])


def _field(one, target, places):
    return ("load", target, places[0], one[2])


def _call(one, target, places):
    return ("call", target, places[0], tuple(places[1:]))


def _next(one, target, places):
    return ("next", target, places[0])


def _is(one, target, places):
    return ("is", target, one[1], places[0])


def _bind(draft, one):
    _, name, value = one
    hops, home = draft.whereabouts(name)
    place = home.names.index(name)
    if hops == 0:
        return [("expression", value, place, len(draft.names))]
    tasks, places = _values(draft, [value])
    return tasks + [("op", ("into", hops, place, places[0]))]


def _values(draft, parts):
    """Return the tasks that work out the expressions of a statement, and the registers of their values."""
    return _operands(draft, parts, len(draft.names))


def _store(draft, one):
    _, cell, field, value = one
    tasks, places = _values(draft, [cell, value])
    return tasks + [("op", ("store", places[0], field, places[1]))]


def _do(draft, one):
    return _values(draft, [one[1]])[0]


def _with_value(draft, one):
    tasks, places = _values(draft, [one[1]])
    return tasks + [("op", (one[0], places[0]))]


def _if(draft, one):
    _, value, first, second = one
    tasks, places = _values(draft, [value])
    other = draft.label()
    tasks = tasks + [("op", ("unless", places[0], other))] + _statements(first)
    if not second:
        return tasks + [("mark", other)]
    behind = draft.label()
    return tasks + [("op", ("jump", behind)), ("mark", other)] + _statements(second) + [("mark", behind)]


def _while(draft, one):
    _, value, body = one
    ahead = draft.label()
    behind = draft.label()
    tasks, places = _values(draft, [value])
    tasks = [("mark", ahead), ("op", ("turn",))] + tasks + [("op", ("unless", places[0], behind))]
    return tasks + _statements(body) + [("op", ("jump", ahead)), ("mark", behind)]


def _try(draft, one):
    _, first, name, second = one
    caught = draft.label()
    behind = draft.label()
    tasks = [("op", ("try", caught, draft.names.index(name)))] + _statements(first)
    tasks = tasks + [("op", ("untry",)), ("op", ("jump", behind)), ("mark", caught)]
    return tasks + _statements(second) + [("mark", behind)]


EXPRESSION_OPS = {"work": _work, "field": _field, "call": _call, "next": _next, "is": _is}

STATEMENT_TASKS = {
    "let": _bind,
    "put": _bind,
    "store": _store,
    "tell": _with_value,
    "do": _do,
    "if": _if,
    "while": _while,
    "back": _with_value,
    "throw": _with_value,
    "try": _try,
    "yield": _with_value,
}
