"""The cells in which a machine keeps what it has, and whether a heap may be a machine's."""

from reachkept.checking import tries_of
from reachkept.kinds import is_at, is_integer

SORT = -9
AROUND = -1
WAITING = -2
STEPPER = -3
CODE = -4
PLACE = -5

# The fields that a frame has ahead of its registers.
LEADING = (-9, -5, -4, -3, -2, -1)


def kind_of(heap, value):
    """Return the kind of a value of the program in a machine's heap."""
    if value is None:
        return "nothing"
    if isinstance(value, int):
        return "integer"
    if isinstance(value, str):
        return "word"
    if not heap.has(value[1], SORT):
        return "cell"
    return "function" if heap.get(value[1], SORT) == "closure" else "generator"


def told_of(heap, value):
    """Return what is told of a value of the program in a machine's heap."""
    kind = kind_of(heap, value)
    return value if kind in ("integer", "word") else kind


def chain(heap):
    """Return the list of the numbers of the frames that run and wait, the running one first."""
    found = []
    frame = heap.get(0, 0)
    while frame is not None:
        found.append(frame[1])
        frame = heap.get(frame[1], WAITING)
    return found


def is_state(codes, heap):
    """Tell whether a heap may be that of a machine with such sound codes."""
    cells = {number: heap.fields(number) for number in heap.numbers()}
    sorts = {number: _sort_of(cells[number]) for number in cells}
    if None in list(sorts.values()) or not _has_root(codes, cells, sorts):
        return False
    met = [tries_of(code) for code in codes[0]]
    if not all([_is_frame(codes, cells, sorts, met, number) for number in _of_sort(sorts, "frame")]):
        return False
    waiting = _waiting(cells, sorts)
    if waiting is None or not _is_chain(codes, cells, sorts, waiting):
        return False
    if not all([_is_function(codes, cells, sorts, number) for number in _of_sort(sorts, "closure")]):
        return False
    if not all([_is_generator(cells, sorts, waiting, number) for number in _of_sort(sorts, "stepper")]):
        return False
    return all([_is_plain(sorts, value) for value in _program_values(cells, sorts)])


def _sort_of(fields):
    """Return what a cell is by its fields: "cell" for one of the program, None for none that may be."""
    if not any([is_integer(field) for field in fields]):
        return "cell"
    word = fields.get(SORT)
    return word if word in ("root", "frame", "closure", "stepper") else None


def _of_sort(sorts, sort):
    return [number for number in sorts if sorts[number] == sort]


def _is_at_sort(sorts, value, sort):
    """Tell whether a value is at a cell of a sort that is there."""
    return is_at(value) and sorts.get(value[1]) == sort


def _is_frame_of(cells, sorts, value, code):
    """Tell whether a value is at a frame of a code."""
    return _is_at_sort(sorts, value, "frame") and cells[value[1]].get(CODE) == code


def _has_root(codes, cells, sorts):
    """Tell whether the cell 0 is the only root, with its fields, and names the modules' frames."""
    if _of_sort(sorts, "root") != [0]:
        return False
    many = len(codes[1])
    if list(cells[0]) != [SORT] + list(range(many + 1)):
        return False
    begun = _begun(cells)
    if not all([cells[0][1 + at] is None for at in range(len(begun), many)]):
        return False
    return all([_is_frame_of(cells, sorts, value, code) for value, code in zip(begun, codes[1])])


def _begun(cells):
    """Return the list of the values at the frames of the modules that have begun."""
    many = 1
    while cells[0].get(many) is not None:
        many += 1
    return [cells[0][at] for at in range(1, many)]


def _is_frame(codes, cells, sorts, met, number):
    """Tell whether a frame has just its fields, with what may stand in them by its code."""
    fields = cells[number]
    code = fields.get(CODE)
    if not is_integer(code) or not 0 <= code < len(codes[0]):
        return False
    _, size, kind, outer, _ = codes[0][code]
    # The size comes first: it may be far greater than what can be listed.
    if len(fields) != len(LEADING) + size or list(fields) != list(LEADING) + list(range(size)):
        return False
    if not is_integer(fields[PLACE]) or fields[PLACE] not in met[code]:
        return False
    if kind == "maker":
        if not _is_at_sort(sorts, fields[STEPPER], "stepper"):
            return False
    elif fields[STEPPER] is not None:
        return False
    if kind == "module":
        return fields[AROUND] is None and ("at", number) in _begun(cells)
    return _is_frame_of(cells, sorts, fields[AROUND], outer)


def _waiting(cells, sorts):
    """Return the list of the frames that run and wait, or None if what should lead to them does not."""
    found = []
    frame = cells[0][0]
    while frame is not None:
        if not _is_at_sort(sorts, frame, "frame") or frame[1] in found:
            return None
        found.append(frame[1])
        frame = cells[frame[1]][WAITING]
    return found


def _is_chain(codes, cells, sorts, waiting):
    """Tell whether the frames that run and wait may do so, and no other one waits."""
    for number in _of_sort(sorts, "frame"):
        if number not in waiting and cells[number][WAITING] is not None:
            return False
    if not waiting:
        return True
    if _begun(cells)[-1] != ("at", waiting[-1]) or len(waiting) - 1 > 30:
        return False
    for awaited, number in zip(waiting[:-1], waiting[1:]):
        code = codes[0][cells[number][CODE]]
        word = code[4][cells[number][PLACE]][0]
        kind = codes[0][cells[awaited][CODE]][2]
        if (kind, word) not in (("make", "call"), ("maker", "next")):
            return False
    return True


def _is_function(codes, cells, sorts, number):
    """Tell whether a function has just its fields, with what may stand in them."""
    fields = cells[number]
    if list(fields) != [SORT, 0, 1]:
        return False
    code = fields[0]
    if not is_integer(code) or not 0 <= code < len(codes[0]) or codes[0][code][2] == "module":
        return False
    return _is_frame_of(cells, sorts, fields[1], codes[0][code][3])


def _is_generator(cells, sorts, waiting, number):
    """Tell whether a generator has just its fields, with what may stand in them."""
    fields = cells[number]
    if list(fields) != [SORT, 0, 1]:
        return False
    frame = fields[0]
    if frame is None:
        return fields[1] == 0
    if not _is_at_sort(sorts, frame, "frame") or cells[frame[1]][STEPPER] != ("at", number):
        return False
    return fields[1] == (1 if frame[1] in waiting else 0)


def _program_values(cells, sorts):
    """Return the list of all values in registers and in fields of the program's cells."""
    values = []
    for number in cells:
        if sorts[number] == "cell":
            values.extend(list(cells[number].values()))
        if sorts[number] == "frame":
            values.extend([cells[number][field] for field in cells[number] if field >= 0])
    return values


def _is_plain(sorts, value):
    """Tell whether a value is one of the program, at a cell that is there if it is at one."""
    return not is_at(value) or sorts.get(value[1]) in ("cell", "closure", "stepper")
