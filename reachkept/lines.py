"""What texts write: programs, plans, steps of courses, traces and codes.

Each returns a tuple of the thing that a text writes, or an empty one.
"""

from reachkept.codes import OPS, is_codes
from reachkept.kinds import is_integer, is_name, is_natural
from reachkept.marks import integer_of, lot_of, numbers_of, truth_of, value_of, whole
from reachkept.parsing import parsed
from reachkept.plans import is_plan
from reachkept.programs import Program, refusal
from reachkept.traces import STEPS, is_trace

# How many parts the steps of a course have by their words, the word itself too.
COURSE_STEPS = {"begin": (1,), "end": (1,), "scan": (2, 3), "put": (4,), "fresh": (3,)}


def program_of(text):
    """Read a Program."""
    lines = text.split("\n")
    main = lines[0].split(" ")
    if lines[-1] != "" or len(main) != 2 or main[0] != "main" or not is_name(main[1]):
        return ()
    rows = whole([_module_line(line) for line in lines[1:-1]])
    if not rows:
        return ()
    names = [name for name, _ in rows[0]]
    modules = {name: module for name, module in rows[0]}
    if names != sorted(modules) or refusal(modules, main[1]):
        return ()
    return (Program(modules, main[1]),)


def named_module_of(text):
    """Read a name and a module behind it, as a tuple."""
    words = text.split(" ")
    found = parsed("module", words[1:])
    return ((words[0], found[0]),) if found and is_name(words[0]) else ()


def plan_of(text):
    """Read a plan."""
    words = text.split(" ")
    if len(words) != 6:
        return ()
    plan = tuple(words[:3]) + tuple([lot_of(word)[0] for word in words[3:]])
    return (plan,) if is_plan(plan) else ()


def step_of(text):
    """Read a step of a course."""
    words = text.split(" ")
    if len(words) not in COURSE_STEPS.get(words[0], ()):
        return ()
    parts = whole([value_of(word) for word in words[1:]])
    if not parts:
        return ()
    rest = parts[0]
    if rest and not is_natural(rest[0]):
        return ()
    if len(rest) > 1 and not is_integer(rest[1]) and not is_name(rest[1]):
        return ()
    return ((words[0],) + rest,)


def trace_of(text):
    """Read a trace."""
    parts = text.split(" ; ")
    head = parts[0].split(" ")
    if len(head) != 2:
        return ()
    steps = whole([_trace_step(part.split(" ")) for part in parts[1:]])
    found = whole([integer_of(head[0]), numbers_of(head[1]), steps])
    return found if found and is_trace(found[0]) else ()


def codes_of(text):
    """Read codes."""
    lines = text.split("\n")
    if len(lines) < 2 or lines[-1] != "" or lines[0].split(" ")[0] != "code":
        return ()
    codes = []
    for line in lines[:-2]:
        words = line.split(" ")
        found = _code_head(words) if words[0] == "code" else _op(words)
        if not found:
            return ()
        if words[0] == "code":
            codes.append(found[0] + ((),))
        else:
            codes[-1] = codes[-1][:4] + (codes[-1][4] + found,)
    words = lines[-2].split(" ")
    order = numbers_of(words[1]) if len(words) == 2 and words[0] == "order" else ()
    return ((tuple(codes), order[0]),) if order and is_codes((tuple(codes), order[0])) else ()


def _module_line(line):
    return named_module_of(line[len("module "):]) if line.startswith("module ") else ()


def _trace_step(words):
    if len(words) < 2 or words[1] not in STEPS or len(words) != 2 + len(STEPS[words[1]]):
        return ()
    parts = [_part(form, word) for form, word in zip(STEPS[words[1]], words[2:])]
    return whole([integer_of(words[0]), (words[1],)] + parts)


def _code_head(words):
    if len(words) != 5:
        return ()
    outer = (None,) if words[4] == "-" else integer_of(words[4])
    return whole([integer_of(words[1]), integer_of(words[2]), (words[3],), outer])


def _op(words):
    if words[0] not in OPS or len(words) != 1 + len(OPS[words[0]]):
        return ()
    return whole([(words[0],)] + [_part(form, word) for form, word in zip(OPS[words[0]], words[1:])])


def _part(form, word):
    """Read a part of an op or of a step of a trace."""
    if form == "plain":
        return value_of(word)
    if form == "truth":
        return truth_of(word)
    if form == "registers":
        return numbers_of(word)
    if form in ("op", "kind", "field"):
        return (word,)
    return integer_of(word)
