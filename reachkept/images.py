"""Machines as plain tuples, and machines put together anew."""

from reachkept.checking import is_sound
from reachkept.codes import is_codes
from reachkept.endings import are_told, is_ending
from reachkept.engines import Engine, Guide
from reachkept.errors import Wrong
from reachkept.frames import is_state
from reachkept.heaps import heap_of
from reachkept.kinds import is_integer, is_name, is_natural, is_value
from reachkept.likeness import matched, packed
from reachkept.machines import machine_on

ROOT = ("at", 0)


def image(machine):
    """Return the tuple (codes, cells, told, end, left, done) of a Machine."""
    heap = machine.heap()
    cells = []
    for number in heap.numbers():
        fields = heap.fields(number)
        cells.append((number, tuple([(field, fields[field]) for field in fields])))
    codes = machine.engine.guide.codes
    return codes, tuple(cells), tuple(machine.told()), machine.end(), machine.left(), machine.done()


def machine_of(thing):
    """Return the Machine whose image a thing is."""
    if not _is_image(thing):
        raise Wrong(0)
    codes, cells, told, end, left, done = thing
    return _machine(codes, _heap(cells), told, end, (left, done))


def moved(machine):
    """Return the Machine with just the cells that are reached from the root, numbered anew."""
    heap, _ = packed(machine.heap(), [ROOT])
    counts = (machine.left(), machine.done())
    return _machine(machine.engine.guide.codes, heap, machine.told(), machine.end(), counts)


def alike_machines(one, other):
    """Tell whether two Machines are alike but for the numbers of cells, and how many ops were done."""
    if one.engine.guide.codes != other.engine.guide.codes or one.told() != other.told():
        return False
    if one.end() != other.end() or one.left() != other.left():
        return False
    return matched(one.heap(), [ROOT], other.heap(), [ROOT]) is not None


def _machine(codes, heap, told, end, counts):
    left, done = counts
    engine = Engine(Guide(codes), left, heap)
    engine.said = list(told)
    engine.ending = end
    engine.count = done
    return machine_on(engine)


def _is_image(thing):
    if not isinstance(thing, tuple) or len(thing) != 6:
        return False
    codes, cells, told, end, left, done = thing
    if not is_codes(codes) or not is_sound(codes) or not _are_cells(cells) or not is_state(codes, _heap(cells)):
        return False
    if not are_told(told) or not is_natural(left) or not is_natural(done):
        return False
    return _may_end(_heap(cells).get(0, 0) is not None, end)


def _may_end(runs, end):
    """Tell whether any value is how a run may have ended, or None, where something runs or not."""
    if end is None:
        return runs
    return is_ending(end) and (end == ("ticks",) or not runs)


def _heap(cells):
    return heap_of({number: {field: value for field, value in rows} for number, rows in cells})


def _are_cells(thing):
    """Tell whether a thing is an ascending tuple of tuples of a number and an ascending tuple of rows."""
    if not _are_pairs(thing) or not all([is_natural(number) and _are_rows(rows) for number, rows in thing]):
        return False
    numbers = [number for number, _ in thing]
    return numbers == sorted(set(numbers))


def _are_rows(thing):
    if not _are_pairs(thing) or not all([is_value(value) for _, value in thing]):
        return False
    fields = [field for field, _ in thing]
    if not all([is_integer(field) for field in fields]) and not all([is_name(field) for field in fields]):
        return False
    return fields == sorted(set(fields))


def _are_pairs(thing):
    return isinstance(thing, tuple) and all([isinstance(part, tuple) and len(part) == 2 for part in thing])
