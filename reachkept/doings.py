"""What each op does."""

from reachkept.frames import AROUND, SORT, STEPPER, kind_of, told_of
from reachkept.works import is_so, worked


def do_next(engine):
    """Do the next op of an Engine whose run has not ended; it ends the run if a tick is lacking."""
    frame = engine.running_frame()
    op = engine.op(frame)
    action = DOINGS[op[0]]
    action(engine, frame, op)
    if engine.ending != ("ticks",):
        engine.count = engine.count + 1


def _value(engine, frame, place):
    return engine.cells.get(frame, place)


def _keep(engine, frame, op):
    engine.give(frame, op[1], op[2])


def _move(engine, frame, op):
    engine.give(frame, op[1], _value(engine, frame, op[2]))


def _hopped(engine, frame, hops):
    """Return the number of the frame that is so many hops out."""
    home = frame
    for _ in range(hops):
        home = engine.cells.get(home, AROUND)[1]
    return home


def _outer(engine, frame, op):
    _, target, hops, place = op
    engine.give(frame, target, _value(engine, _hopped(engine, frame, hops), place))


def _into(engine, frame, op):
    _, hops, target, place = op
    engine.cells.put(_hopped(engine, frame, hops), target, _value(engine, frame, place))
    engine.go_on(frame)


def _other(engine, frame, op):
    _, target, code, place = op
    home = engine.cells.get(0, 1 + engine.guide.codes[1].index(code))
    engine.give(frame, target, _value(engine, home[1], place))


def _work(engine, frame, op):
    _, target, word, one, other = op
    value, thrown = worked(word, _value(engine, frame, one), _value(engine, frame, other))
    if thrown is None:
        engine.give(frame, target, value)
    else:
        engine.throw(thrown)


def _cell(engine, frame, op):
    engine.give(frame, op[1], ("at", engine.cells.new({})))


def _load(engine, frame, op):
    _, target, place, field = op
    one = _value(engine, frame, place)
    if kind_of(engine.cells, one) == "cell" and engine.cells.has(one[1], field):
        engine.give(frame, target, engine.cells.get(one[1], field))
    else:
        engine.throw("lack")


def _store(engine, frame, op):
    _, place, field, other = op
    one = _value(engine, frame, place)
    if kind_of(engine.cells, one) == "cell":
        engine.cells.put(one[1], field, _value(engine, frame, other))
        engine.go_on(frame)
    else:
        engine.throw("lack")


def _close(engine, frame, op):
    number = engine.cells.new({SORT: "closure", 0: op[2], 1: ("at", frame)})
    engine.give(frame, op[1], ("at", number))


def _call(engine, frame, op):
    _, target, place, others = op
    one = _value(engine, frame, place)
    if kind_of(engine.cells, one) != "function":
        engine.throw("kind")
        return
    code = engine.cells.get(one[1], 0)
    many, _, kind, _, _ = engine.guide.codes[0][code]
    if many != len(others):
        engine.throw("kind")
    elif engine.tick():
        if kind == "make" and engine.is_deep():
            engine.throw("deep")
            return
        values = [_value(engine, frame, other) for other in others]
        inner = engine.new_frame(code, engine.cells.get(one[1], 1), values)
        if kind == "make":
            engine.enter(frame, inner)
        else:
            number = engine.cells.new({SORT: "stepper", 0: ("at", inner), 1: 0})
            engine.cells.put(inner, STEPPER, ("at", number))
            engine.give(frame, target, ("at", number))


def _next(engine, frame, op):
    one = _value(engine, frame, op[2])
    if kind_of(engine.cells, one) != "generator":
        engine.throw("kind")
        return
    inner = engine.cells.get(one[1], 0)
    if inner is None or engine.cells.get(one[1], 1) == 1:
        engine.throw("over")
    elif engine.tick():
        if engine.is_deep():
            engine.throw("deep")
        else:
            engine.cells.put(one[1], 1, 1)
            engine.enter(frame, inner[1])


def _is(engine, frame, op):
    _, target, kind, place = op
    engine.give(frame, target, 1 if kind_of(engine.cells, _value(engine, frame, place)) == kind else 0)


def _tell(engine, frame, op):
    engine.said.append(told_of(engine.cells, _value(engine, frame, op[1])))
    engine.go_on(frame)


def _jump(engine, frame, op):
    engine.go(frame, op[1])


def _unless(engine, frame, op):
    if is_so(_value(engine, frame, op[1])):
        engine.go_on(frame)
    else:
        engine.go(frame, op[2])


def _turn(engine, frame, op):
    if engine.tick():
        engine.go_on(frame)


def _back(engine, frame, op):
    _leave(engine, frame, _value(engine, frame, op[1]))


def _leave(engine, frame, value):
    """Leave the frame of a make or maker, at whose end it is, with a value."""
    is_make = engine.kind_of_frame(frame) == "make"
    engine.end_stepper(frame)
    waiting = engine.leave(frame)
    if is_make:
        _answer(engine, waiting, value)
    else:
        engine.throw("over")


def _answer(engine, frame, value):
    """Give the register of the call or next at which a frame waits the value that came of it."""
    engine.give(frame, engine.op(frame)[1], value)


def _end(engine, frame, op):
    if engine.kind_of_frame(frame) == "module":
        engine.begin()
    else:
        _leave(engine, frame, None)


def _throw(engine, frame, op):
    engine.throw(_value(engine, frame, op[1]))


def _go_on(engine, frame, op):
    engine.go_on(frame)


def _yield(engine, frame, op):
    value = _value(engine, frame, op[1])
    engine.go_on(frame)
    engine.cells.put(engine.cells.get(frame, STEPPER)[1], 1, 0)
    _answer(engine, engine.leave(frame), value)


DOINGS = {
    "keep": _keep,
    "move": _move,
    "outer": _outer,
    "into": _into,
    "other": _other,
    "work": _work,
    "cell": _cell,
    "load": _load,
    "store": _store,
    "close": _close,
    "call": _call,
    "next": _next,
    "is": _is,
    "tell": _tell,
    "jump": _jump,
    "unless": _unless,
    "turn": _turn,
    "back": _back,
    "end": _end,
    "throw": _throw,
    "try": _go_on,
    "untry": _go_on,
    "yield": _yield,
}
