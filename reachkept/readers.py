"""What texts write, or that they write nothing of the kind."""

from reachkept.errors import NoText
from reachkept.lines import codes_of, plan_of, program_of, step_of, trace_of
from reachkept.parsing import parsed


def read_expression(text):
    """Return the expression that a text writes."""
    return _one(parsed("expression", text.split(" ")))


def read_body(text):
    """Return the body that a text writes."""
    return _one(parsed("body", text.split(" ")))


def read_program(text):
    """Return the Program that a text writes."""
    return _one(program_of(text))


def read_plan(text):
    """Return the plan that a text writes."""
    return _one(plan_of(text))


def read_step(text):
    """Return the step of a course that a text writes."""
    return _one(step_of(text))


def read_trace(text):
    """Return the trace that a text writes."""
    return _one(trace_of(text))


def read_codes(text):
    """Return the codes that a text writes."""
    return _one(codes_of(text))


def _one(found):
    if not found:
        raise NoText()
    return found[0]
