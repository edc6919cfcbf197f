"""What expressions and statements do in a run, and runs from their begin to their end."""

from reachkept.activities import Activity, Run, Scope
from reachkept.scopes import owned
from reachkept.shapes import pieces
from reachkept.values import Cell, Closure, Stepper, sort_of, telling
from reachkept.works import is_so, worked


def run_of(program, ticks):
    """Return the Run of a Program with so many ticks that has ended."""
    run = Run(program, ticks)
    while run.ending is None:
        _step(run)
    return run


def _step(run):
    activity = run.stack[-1]
    if not activity.agenda:
        run.finish(None)
        return
    task, node, many = activity.agenda.pop()
    if task == "apply":
        action = ACTIONS[node[0]]
        action(run, node, activity.taken(many))
    elif task != "try":
        _begin(run, activity, task, node)


def _begin(run, activity, form, node):
    """Work out the parts of an expression or a statement first, and then do what is left of it."""
    if node[0] == "while" and not run.tick():
        return
    parts = _parts(form, node)
    activity.agenda.append(("apply", node, len(parts)))
    activity.plan("expression", parts)


def _parts(form, node):
    """Return the list of the expressions that are worked out ahead of what is made of them."""
    parts = []
    for inner, part in pieces(form, node):
        if inner == "expression":
            parts.append(part)
        if inner in ("expressions", "rows"):
            parts.extend([one for _, one in pieces(inner, part)])
    return parts


def _plain(run, node, values):
    run.give(node[1])


def _nothing(run, node, values):
    run.give(None)


def _name(run, node, values):
    run.give(run.value_of(node[1]))


def _work(run, node, values):
    value, thrown = worked(node[1], values[0], values[1])
    if thrown is None:
        run.give(value)
    else:
        run.throw(thrown)


def _cell(run, node, values):
    names = [name for name, _ in node[1]]
    run.give(Cell(dict(zip(names, values))))


def _field(run, node, values):
    one, name = values[0], node[2]
    if isinstance(one, Cell) and name in one.held:
        run.give(one.held[name])
    else:
        run.throw("lack")


def _make(run, node, values):
    run.give(Closure(node, owned(node[1], node[2]), run.stack[-1].scope))


def _call(run, node, values):
    one = values[0]
    others = values[1:]
    if not isinstance(one, Closure) or len(one.make[1]) != len(others):
        run.throw("kind")
    elif run.tick():
        _open(run, one, others)


def _open(run, function, others):
    """Begin the call of a function with the values of its givens, for which a tick was used up."""
    word, givens, body = function.make
    scope = Scope(function.names, function.scope, None, {})
    for name, value in zip(givens, others):
        scope.held[name] = value
    if word == "maker":
        stepper = Stepper()
        stepper.activity = Activity(scope, body, stepper)
        run.give(stepper)
    elif run.is_deep():
        run.throw("deep")
    else:
        run.enter(Activity(scope, body, None))


def _next(run, node, values):
    one = values[0]
    if not isinstance(one, Stepper):
        run.throw("kind")
    elif one.activity is None or one.running:
        run.throw("over")
    elif run.tick():
        if run.is_deep():
            run.throw("deep")
        else:
            one.running = True
            run.enter(one.activity)


def _is(run, node, values):
    run.give(1 if sort_of(values[0]) == node[1] else 0)


def _bind(run, node, values):
    run.bind(node[1], values[0])


def _store(run, node, values):
    if isinstance(values[0], Cell):
        values[0].held[node[2]] = values[1]
    else:
        run.throw("lack")


def _tell(run, node, values):
    run.said.append(telling(values[0]))


def _do(run, node, values):
    pass


def _if(run, node, values):
    run.stack[-1].plan("statement", node[2] if is_so(values[0]) else node[3])


def _while(run, node, values):
    if is_so(values[0]):
        run.stack[-1].plan("statement", node[2] + (node,))


def _back(run, node, values):
    run.finish(values[0])


def _throw(run, node, values):
    run.throw(values[0])


def _try(run, node, values):
    activity = run.stack[-1]
    activity.agenda.append(("try", node, 0))
    activity.plan("statement", node[1])


def _yield(run, node, values):
    stepper = run.stack.pop().stepper
    stepper.running = False
    run.give(values[0])


ACTIONS = {
    "integer": _plain,
    "word": _plain,
    "nothing": _nothing,
    "name": _name,
    "work": _work,
    "cell": _cell,
    "field": _field,
    "make": _make,
    "maker": _make,
    "call": _call,
    "next": _next,
    "is": _is,
    "let": _bind,
    "put": _bind,
    "store": _store,
    "tell": _tell,
    "do": _do,
    "if": _if,
    "while": _while,
    "back": _back,
    "throw": _throw,
    "try": _try,
    "yield": _yield,
}
