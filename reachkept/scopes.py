"""To what the names of a body belong, and where its backs and yields stand."""

from reachkept.shapes import MAKES, pieces


def owned(givens, body):
    """Return the ascending list of the own names of a make with such givens and body."""
    names = list(givens)
    waiting = [body]
    while waiting:
        inner = waiting.pop()
        for statement in inner:
            if statement[0] == "let":
                names.append(statement[1])
            if statement[0] == "try":
                names.append(statement[2])
            waiting.extend([part for form, part in pieces("statement", statement) if form == "body"])
    return sorted(set(names))


def loose(names, body):
    """Return the ascending list of the names used in a body that are not known and belong to no make in it."""
    known = list(names) + owned((), body)
    return sorted({name for _, name in outward(known, body)})


def outward(names, body):
    """Return the list of the uses in a body of names that are not among names and belong to no make in it.

    A use is a tuple of a word, "name" or "put", and a name.
    """
    found = []
    for _, thing, around in walked(body):
        if thing[0] in ("name", "put") and thing[1] not in names:
            if not any([thing[1] in own for _, own in around]):
                found.append((thing[0], thing[1]))
    return found


def misplaced(body, kind):
    """Return the ascending list of the words "back" and "yield" that stand where they may not.

    The body belongs to what kind tells: a "module", a "make" or a "maker".
    """
    found = []
    for _, thing, around in walked(body):
        home = around[-1][0] if around else kind
        if thing[0] == "back" and home == "module":
            found.append("back")
        if thing[0] == "yield" and home != "maker":
            found.append("yield")
    return sorted(set(found))


def many(body):
    """Return how many statements there are in a body, those within others and within makes too."""
    return len([form for form, _, _ in walked(body) if form == "statement"])


def walked(body):
    """Return the list of all statements and expressions in a body, makes within it included.

    Each is a tuple (form, thing, around): around is the tuple of the makes around it, the innermost
    last, each a tuple of its word and the list of its own names.
    """
    found = []
    waiting = [("body", body, ())]
    while waiting:
        form, thing, around = waiting.pop()
        if form in ("expression", "statement"):
            found.append((form, thing, around))
        if form == "expression" and thing[0] in MAKES:
            around = around + ((thing[0], owned(thing[1], thing[2])),)
        waiting.extend([(inner, part, around) for inner, part in pieces(form, thing)])
    return found
