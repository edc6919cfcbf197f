"""What words write: expressions, statements, bodies and modules.

What is still to be read is kept in a list of tasks, not in calls of Python in calls, so that texts may
be as deep as they like. A task is a tuple: ("read", form), which puts a thing of the form on the list of
those found; ("mark", word), where this word must stand; ("many", form, word, front), which reads things
until the word comes, and makes a tuple of those found from front on; ("join", head, front), which makes
a tuple of these behind the head, also a tuple.
"""

from reachkept.forms import is_body, is_expression, is_module
from reachkept.kinds import is_name
from reachkept.marks import integer_of
from reachkept.shapes import KINDS, WORKS, forms_of

# What stands between which words, of which form.
LISTS = {
    "body": ("{", "statement", "}"),
    "givens": ("(", "name", ")"),
    "rows": ("(", "row", ")"),
    "expressions": ("(", "expression", ")"),
    "imports": ("(", "import", ")"),
}

# What stands one behind another, without a word ahead.
TUPLES = {
    "row": ("name", "expression"),
    "import": ("name", "name", "name"),
}


def parsed(form, words):
    """Return the tuple of the expression, body or module that words write, or an empty one."""
    reader = Reader(words, form)
    while reader.agenda:
        task = reader.agenda.pop()
        action = TASKS[task[0]]
        if not action(reader, task):
            return ()
    thing = reader.things[0]
    return (thing,) if reader.at == len(words) and _is_form(form, thing) else ()


def _is_form(form, thing):
    """Tell whether what was read hangs together as such a thing: its names may be the same, for one."""
    if form == "expression":
        return is_expression(thing)
    return is_body(thing) if form == "body" else is_module(thing)


class Reader:
    """Words that are read, the index of the next one, what is still to be read, and what was found."""

    def __init__(self, words, form):
        self.words = words
        self.at = 0
        self.agenda = [("read", form)]
        self.things = []

    def ahead(self):
        """Return the next word, or an empty one if there is none."""
        return self.words[self.at] if self.at < len(self.words) else ""

    def keep(self, thing):
        """Put a thing that the next word writes on those found, and go on behind it; tell that this was done."""
        self.things.append(thing)
        self.at += 1
        return True

    def await_all(self, tasks):
        """Put tasks ahead of all others, the first one first; tell that this was done."""
        self.agenda.extend(tasks[::-1])
        return True


# Each of these does a task and tells whether it could be done.


def _read(reader, task):
    form = task[1]
    front = len(reader.things)
    if form in LISTS:
        first, inner, last = LISTS[form]
        return reader.await_all([("mark", first), ("many", inner, last, front)])
    if form in TUPLES:
        return reader.await_all([("read", part) for part in TUPLES[form]] + [("join", (), front)])
    if form == "module":
        parts = [("read", part) for part in ("imports", "givens", "body")]
        return reader.await_all([("mark", "import")] + parts + [("join", (), front)])
    if form == "expression":
        return _read_expression(reader)
    if form == "statement":
        return _read_headed(reader, form)
    return _read_word(reader, form)


def _read_expression(reader):
    word = reader.ahead()
    front = len(reader.things)
    numbers = integer_of(word)
    if numbers:
        return reader.keep(("integer", numbers[0]))
    if is_name(word):
        return reader.keep(("name", word))
    if word in WORKS:
        parts = [("read", part) for part in ("op", "expression", "expression")]
        return reader.await_all(parts + [("join", ("work",), front)])
    return word != "integer" and _read_headed(reader, "expression")


def _read_headed(reader, form):
    """Read a word with which an expression or a statement begins, and all that stands behind it."""
    word = reader.ahead()
    parts = forms_of(form, word)
    if parts is None:
        return False
    reader.at += 1
    front = len(reader.things)
    return reader.await_all([("read", part) for part in parts] + [("join", (word,), front)])


def _read_word(reader, form):
    """Read a name, the op of a work, or a kind."""
    word = reader.ahead()
    if form == "name":
        return is_name(word) and reader.keep(word)
    return word in (WORKS if form == "op" else KINDS) and reader.keep(word)


def _mark(reader, task):
    fits = reader.ahead() == task[1]
    reader.at += 1
    return fits


def _many(reader, task):
    _, form, last, front = task
    if reader.ahead() != last:
        return reader.await_all([("read", form), task])
    return reader.await_all([("mark", last), ("join", (), front)])


def _join(reader, task):
    _, head, front = task
    parts = reader.things[front:]
    del reader.things[front:]
    reader.things.append(head + tuple(parts))
    return True


TASKS = {"read": _read, "mark": _mark, "many": _many, "join": _join}
