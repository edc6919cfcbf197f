"""Whether things are expressions, statements, bodies and modules."""

from reachkept.kinds import is_integer, is_name
from reachkept.shapes import KINDS, WORKS, forms_of, pieces


def is_expression(thing):
    """Tell whether a thing is an expression."""
    return _fits("expression", thing)


def is_statement(thing):
    """Tell whether a thing is a statement."""
    return _fits("statement", thing)


def is_body(thing):
    """Tell whether a thing is a body."""
    return _fits("body", thing)


def is_module(thing):
    """Tell whether a thing is a module, the own names of whose imports are different."""
    if not isinstance(thing, tuple) or len(thing) != 3:
        return False
    imports, exports, body = thing
    return _are_imports(imports) and _are_exports(exports) and is_body(body)


def _fits(form, thing):
    # A list of what is still to be looked at, instead of calls in calls: things may be deep.
    waiting = [(form, thing)]
    while waiting:
        wanted, part = waiting.pop()
        if not _begins(wanted, part):
            return False
        waiting.extend(pieces(wanted, part))
    return True


def _begins(form, thing):
    """Tell whether a thing has a form, whatever stands in the pieces of it."""
    if form in ("expression", "statement"):
        return _has_parts(form, thing)
    if form == "integer":
        return is_integer(thing)
    if form == "name":
        return is_name(thing)
    if form == "op":
        return thing in WORKS
    if form == "kind":
        return thing in KINDS
    if form == "givens":
        return _are_different_names(thing)
    if form == "rows":
        return _are_rows(thing)
    return isinstance(thing, tuple)


def _has_parts(form, thing):
    if not isinstance(thing, tuple) or len(thing) == 0 or not isinstance(thing[0], str):
        return False
    forms = forms_of(form, thing[0])
    return forms is not None and len(thing) == 1 + len(forms)


def _are_names(thing):
    return isinstance(thing, tuple) and all([is_name(part) for part in thing])


def _are_different_names(thing):
    return _are_names(thing) and len(set(thing)) == len(thing)


def _are_rows(thing):
    if not isinstance(thing, tuple):
        return False
    if not all([isinstance(row, tuple) and len(row) == 2 for row in thing]):
        return False
    return _are_different_names(tuple([name for name, _ in thing]))


def _are_imports(thing):
    if not isinstance(thing, tuple):
        return False
    if not all([_are_names(row) and len(row) == 3 for row in thing]):
        return False
    return _are_different_names(tuple([own for _, _, own in thing]))


def _are_exports(thing):
    return _are_names(thing) and list(thing) == sorted(set(thing))
