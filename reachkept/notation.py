"""What programs, plans, steps, traces and codes are written as."""

from reachkept.codes import OPS
from reachkept.kinds import is_at
from reachkept.shapes import pieces

# Expressions that are written without their own words.
WORDLESS = ("integer", "name", "work")


def show_expression(one):
    """Return the text of an expression."""
    return _text("expression", one)


def show_body(body):
    """Return the text of a body."""
    return _text("body", body)


def show_module(module):
    """Return the text of a module."""
    imports, exports, body = module
    words = ["import", "("] + [word for row in imports for word in row] + [")", "("] + list(exports) + [")"]
    return " ".join(words + [show_body(body)])


def show_program(program):
    """Return the text of a Program, line by line."""
    lines = ["main " + program.main()]
    for name in program.modules():
        lines.append("module " + name + " " + show_module(program.module(name)))
    return "".join([line + "\n" for line in lines])


def show_plan(plan):
    """Return the text of a plan."""
    return " ".join(list(plan[:3]) + [show_list(lot) for lot in plan[3:]])


def show_step(step):
    """Return the text of a step of a course."""
    return " ".join([step[0]] + [show_value(part) for part in step[1:]])


def show_trace(trace):
    """Return the text of a trace."""
    size, kept, steps = trace
    parts = [show_value(size) + " " + show_list(kept)]
    parts.extend([" ".join([_shown_part(part) for part in step]) for step in steps])
    return " ; ".join(parts)


def show_codes(codes):
    """Return the text of codes, line by line."""
    some, order = codes
    lines = []
    for many, size, kind, outer, ops in some:
        shown = "-" if outer is None else show_value(outer)
        lines.append(" ".join(["code", show_value(many), show_value(size), kind, shown]))
        lines.extend([_shown_op(op) for op in ops])
    lines.append("order " + show_list(order))
    return "".join([line + "\n" for line in lines])


def show_value(value):
    """Return the text of a value."""
    if value is None:
        return "nothing"
    if is_at(value):
        return "@" + str(value[1])
    return str(value)


def show_list(parts):
    """Return the text of words or integers with commas between, or of none of them."""
    return ",".join([str(part) for part in parts]) if parts else "-"


def _text(form, thing):
    """Return the text of a thing of a form."""
    # A list of what is still to be written, instead of calls in calls: things may be deep.
    words = []
    agenda = [(form, thing)]
    while agenda:
        wanted, part = agenda.pop()
        if wanted in ("expression", "statement"):
            if wanted == "statement" or part[0] not in WORDLESS:
                words.append(part[0])
            agenda.extend(pieces(wanted, part)[::-1])
        elif wanted in ("body", "expressions", "rows", "givens"):
            agenda.extend(_enclosed(wanted, part)[::-1])
        else:
            words.append(str(part))
    return " ".join(words)


def _enclosed(form, thing):
    """Return the list of what is written for a thing between parentheses or braces, with these."""
    if form == "body":
        return [("mark", "{")] + pieces(form, thing) + [("mark", "}")]
    if form == "givens":
        rows = [("name", name) for name in thing]
    elif form == "rows":
        rows = [row for name, one in thing for row in (("name", name), ("expression", one))]
    else:
        rows = pieces(form, thing)
    return [("mark", "(")] + rows + [("mark", ")")]


def _shown_part(part):
    """Return the text of a part of a step of a trace."""
    if isinstance(part, bool):
        return "yes" if part else "no"
    return show_value(part)


def _shown_op(op):
    parts = [show_list(part) if form == "registers" else show_value(part) for form, part in zip(OPS[op[0]], op[1:])]
    return " ".join([op[0]] + parts)
