"""Whether codes hang together: where ops lead, which tries are open at them, and what is at fault."""

from reachkept.codes import OPS


def faults(codes):
    """Return the ascending list of the tuples (code, op, word) by which codes have a fault."""
    found = []
    for index in range(len(codes[0])):
        found.extend([(index, at, word) for at, word in _faults_of(codes, index)])
    return sorted(set(found))


def is_sound(codes):
    """Tell whether codes have no fault."""
    return faults(codes) == []


def open_tries(codes, code, op):
    """Return the list of the open tries of an op, or None if it is not met."""
    return tries_of(codes[0][code]).get(op)


def unmet(codes):
    """Return the ascending list of the tuples (code, op) of ops to which no steps lead."""
    found = []
    for index in range(len(codes[0])):
        met = tries_of(codes[0][index])
        found.extend([(index, at) for at in range(len(codes[0][index][4])) if at not in met])
    return found


def tries_of(code):
    """Return the dict from the met ops of a code to the lists of their open tries."""
    ops = code[4]
    found = {0: []}
    level = [0]
    while level:
        further = []
        for at in level:
            handed = _handed(ops, at, found[at])
            for place, tries in handed:
                if place < len(ops) and place not in found:
                    found[place] = list(tries)
                    further.append(place)
        level = sorted(further)
    return found


def around(codes, index):
    """Return the list of the codes around a code, the innermost first."""
    found = []
    here = index
    outer = codes[0][index][3]
    while outer is not None and outer < here:
        found.append(outer)
        here = outer
        outer = codes[0][here][3]
    return found


def _handed(ops, at, tries):
    """Return the list of the places to which an op leads, each with the tries that it hands there."""
    op = ops[at]
    if op[0] in ("back", "end", "throw"):
        return []
    if op[0] == "jump":
        return [(op[1], tries)]
    if op[0] == "unless":
        return [(at + 1, tries), (op[2], tries)]
    if op[0] == "try":
        return [(at + 1, tries + [at]), (op[1], tries)]
    if op[0] == "untry":
        return [(at + 1, tries[:-1])]
    return [(at + 1, tries)]


def _faults_of(codes, index):
    """Return the list of the tuples (op, word) by which a code has a fault."""
    code = codes[0][index]
    found = _faults_of_tries(code)
    if code[2] != "module" and code[3] >= index:
        found.append((0, "code"))
    for at, op in enumerate(code[4]):
        if _has_far_register(codes, index, op):
            found.append((at, "register"))
        if _has_far_place(code, op):
            found.append((at, "place"))
        if _names_wrong_code(codes, index, op):
            found.append((at, "code"))
    return found


def _faults_of_tries(code):
    """Return the list of the faults that show when steps are followed: of the words "run" and "tries"."""
    ops = code[4]
    met = tries_of(code)
    found = []
    for at in met:
        op = ops[at]
        if at + 1 == len(ops) and op[0] not in ("back", "end", "throw", "jump"):
            found.append((at, "run"))
        if op[0] == "untry" and met[at] == []:
            found.append((at, "tries"))
        for place, tries in _handed(ops, at, met[at]):
            if place in met and met[place] != tries:
                found.append((place, "tries"))
    return found


def _has_far_register(codes, index, op):
    """Tell whether an op has a register beyond those of the code whose frame it is."""
    return any([home is not None and number >= codes[0][home][1] for number, home in _registers(codes, index, op)])


def _registers(codes, index, op):
    """Return the list of the registers of an op, each with the code whose frame it is, or None."""
    if op[0] == "outer":
        return [(op[1], index), (op[3], _hopped(codes, index, op[2]))]
    if op[0] == "into":
        return [(op[2], _hopped(codes, index, op[1])), (op[3], index)]
    if op[0] == "other":
        return [(op[1], index), (op[3], op[2] if _is_module(codes, op[2]) else None)]
    numbers = [part for form, part in zip(OPS[op[0]], op[1:]) if form == "register"]
    if op[0] == "call":
        numbers.extend(list(op[3]))
    return [(number, index) for number in numbers]


def _hopped(codes, index, hops):
    """Return the code that is so many hops around a code, or None."""
    homes = around(codes, index)
    return homes[hops - 1] if hops <= len(homes) else None


def _is_module(codes, index):
    return index < len(codes[0]) and codes[0][index][2] == "module"


def _has_far_place(code, op):
    return any([form == "at" and part >= len(code[4]) for form, part in zip(OPS[op[0]], op[1:])])


def _names_wrong_code(codes, index, op):
    """Tell whether an op names a code that it may not name, or may not stand in its own code."""
    kind = codes[0][index][2]
    if op[0] == "yield":
        return kind != "maker"
    if op[0] == "back":
        return kind == "module"
    if op[0] == "close":
        inner = op[2]
        return inner >= len(codes[0]) or codes[0][inner][2] == "module" or codes[0][inner][3] != index
    if op[0] == "outer":
        return _hopped(codes, index, op[2]) is None
    if op[0] == "into":
        return _hopped(codes, index, op[1]) is None
    if op[0] == "other":
        return not _is_behind(codes, index, op[2])
    return False


def _is_behind(codes, index, named):
    """Tell whether a code stands in a module that is behind the named one in the order."""
    order = list(codes[1])
    home = ([index] + around(codes, index))[-1]
    return named in order and home in order and order.index(home) > order.index(named)
