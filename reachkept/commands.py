"""Lines that lead a house, and the texts that answer them."""

from reachkept.deeds import are_ticks, is_deed
from reachkept.endings import is_told
from reachkept.judging import do_same
from reachkept.keeping import keeps, loss, mended
from reachkept.lines import named_module_of, plan_of, trace_of
from reachkept.marks import integer_of, numbers_of, whole
from reachkept.notation import show_list, show_module, show_plan, show_program, show_step, show_trace, show_value
from reachkept.shortening import lean


def answered(house, line):
    """Return the text that answers a line, a deed being done in the House, or None if it is no command."""
    head, blank, rest = line.partition(" ")
    if blank == "":
        if head not in PLAIN_LINES:
            return None
        action = PLAIN_LINES[head]
        return action(house)
    if head in QUESTIONS:
        action = QUESTIONS[head]
        return action(house, rest)
    return _done(house, head, rest)


def _done(house, head, rest):
    """Return the answer to a line of a deed, or None."""
    if head not in DEED_PARTS:
        return None
    action = DEED_PARTS[head]
    found = action(rest)
    if not found or not is_deed((head,) + found[0]):
        return None
    refusal = house.attempt((head,) + found[0])
    return "refused " + refusal[0] if refusal else "done"


# Each of these returns a tuple of the tuple of what stands behind the word of a deed, or an empty one.


def _module(text):
    return named_module_of(text)


def _name(text):
    return ((text,),)


def _plan(text):
    return whole([plan_of(text)])


def _schedule(text):
    return whole([numbers_of(text)])


def _number(text):
    return whole([integer_of(text)])


def _claim(text):
    words = text.split(" ")
    many = 3 if words[1:2] == ["thrown"] else 2
    if len(words) < many:
        return ()
    told = whole([_told_of(word) for word in words[2:]])
    if not told:
        return ()
    # What is thrown is the first thing behind its word.
    ending = (words[1],) + told[0][:many - 2]
    return whole([integer_of(words[0]), (told[0][many - 2:],), (ending,)])


def _told_of(word):
    if integer_of(word):
        return integer_of(word)
    return (word,) if is_told(word) else ()


# Each of these answers a line.


def _back(house):
    return _shown_deed(house.back()) if len(house) > 0 else "nothing"


def _again(house):
    return _shown_deed(house.again()) if house.may_again() else "nothing"


def _show_program(house):
    return show_program(house.program())


def _show_plan(house):
    return show_plan(house.plan())


def _show_schedule(house):
    return show_list(house.schedule())


def _show_claims(house):
    return "; ".join([_shown_claim(claim) for claim in house.claims()]) if house.claims() else "-"


def _run(house, text):
    numbers = integer_of(text)
    if not numbers or not are_ticks(numbers[0]):
        return None
    told, ending, _ = house.run(numbers[0])
    return _shown(list(ending) + told)


def _keeps(house, text):
    plans = plan_of(text)
    if not plans:
        return None
    return "yes" if keeps(plans[0]) else "no"


def _loss(house, text):
    plans = plan_of(text)
    if not plans:
        return None
    shown = loss(plans[0])
    return "none" if shown is None else "; ".join([show_step(step) for step in shown[2]])


def _mended(house, text):
    plans = plan_of(text)
    if not plans:
        return None
    found = mended(plans[0])
    return "; ".join([show_plan(plan) for plan in found]) if found else "none"


def _same(house, text):
    traces = whole([trace_of(part) for part in text.split(" / ")])
    if not traces or len(traces[0]) != 2:
        return None
    one, other = traces[0]
    if one[:2] != other[:2]:
        return "refused Unlike"
    return "yes" if do_same(one, other) else "no"


def _lean(house, text):
    traces = trace_of(text)
    return show_trace(lean(traces[0])) if traces else None


def _shown(things):
    """Return the text of what is told, of endings, and of numbers."""
    return " ".join([show_value(thing) for thing in things])


def _shown_claim(claim):
    ticks, told, ending = claim
    return _shown([ticks] + list(ending) + list(told))


def _shown_deed(deed):
    """Return the line of a deed."""
    head = deed[0]
    if head == "module":
        return " ".join([head, deed[1], show_module(deed[2])])
    if head == "plan":
        return head + " " + show_plan(deed[1])
    if head == "schedule":
        return head + " " + show_list(deed[1])
    if head == "claim":
        return head + " " + _shown_claim(deed[1:])
    return head + " " + show_value(deed[1])


PLAIN_LINES = {
    "back": _back,
    "again": _again,
    "program": _show_program,
    "plan": _show_plan,
    "schedule": _show_schedule,
    "claims": _show_claims,
}

QUESTIONS = {
    "run": _run,
    "keeps": _keeps,
    "loss": _loss,
    "mended": _mended,
    "same": _same,
    "lean": _lean,
}

DEED_PARTS = {
    "module": _module,
    "drop": _name,
    "main": _name,
    "plan": _plan,
    "schedule": _schedule,
    "claim": _claim,
    "free": _number,
}
