"""A second reader of programs, written by calls in calls and generators of Python, to compare runs with."""

import sys

sys.setrecursionlimit(20000)


class Thrown(Exception):
    def __init__(self, value):
        self.value = value


class NoTicks(Exception):
    pass


class Cell:
    def __init__(self, fields):
        self.fields = fields


class Function:
    def __init__(self, node, around):
        self.node = node
        self.around = around


class Generator:
    def __init__(self, course):
        self.course = course
        self.state = "waits"


class Names:
    def __init__(self, own, around, module=None, imports=()):
        self.values = dict.fromkeys(own)
        self.around = around
        self.module = module
        self.imports = {own: (home, export) for home, export, own in imports}


def own_names(body):
    found = set()
    for statement in body:
        if statement[0] == "let":
            found.add(statement[1])
        elif statement[0] == "if":
            found |= own_names(statement[2]) | own_names(statement[3])
        elif statement[0] == "while":
            found |= own_names(statement[2])
        elif statement[0] == "try":
            found |= own_names(statement[1]) | {statement[2]} | own_names(statement[3])
    return found


def kind(value):
    if value is None:
        return "nothing"
    return {int: "integer", str: "word", Cell: "cell", Function: "function", Generator: "generator"}[type(value)]


def told(value):
    return value if type(value) in (int, str) else kind(value)


class Reader:
    """Runs modules, a dict, with a main one; afterwards told, end, left, thrown, deepest and given tell of it."""

    def __init__(self, modules, main, ticks):
        self.modules, self.left = modules, ticks
        self.told, self.thrown, self.given = [], [], []
        self.open = self.deepest = 0
        self.homes = {}
        try:
            self.run(main)
            self.end = ("done",)
        except Thrown as error:
            self.end = ("thrown", told(error.value))
        except NoTicks:
            self.end = ("ticks",)

    def run(self, name):
        if name in self.homes:
            return
        imports, _, body = self.modules[name]
        for home, _, _ in imports:
            self.run(home)
        self.homes[name] = Names(own_names(body), None, name, imports)
        for _ in self.body(body, self.homes[name]):
            raise AssertionError("a module yields")

    def tick(self):
        if self.left == 0:
            raise NoTicks()
        self.left -= 1

    def wrong(self, value):
        self.thrown.append(told(value))
        return Thrown(value)

    def home_of(self, name, names):
        while name not in names.values and name not in names.imports:
            names = names.around
        return names

    def get(self, name, names):
        names = self.home_of(name, names)
        if name in names.values:
            return names.values[name]
        home, export = names.imports[name]
        return self.homes[home].values[export]

    def put(self, name, value, names):
        names = self.home_of(name, names)
        names.values[name] = value
        if names.module is not None:
            self.given.append((names.module, name, told(value)))

    def body(self, body, names):
        """Yields what is yielded; returns a tuple of the value of a back, or None."""
        for statement in body:
            result = yield from getattr(self, "do_" + statement[0])(names, *statement[1:])
            if result is not None:
                return result
        return None

    def plain(self):
        return
        yield

    def do_let(self, names, name, one):
        self.put(name, self.value(one, names), names)
        yield from self.plain()

    do_put = do_let

    def do_store(self, names, one, field, other):
        one, other = self.value(one, names), self.value(other, names)
        if type(one) is not Cell:
            raise self.wrong("lack")
        one.fields[field] = other
        yield from self.plain()

    def do_tell(self, names, one):
        self.told.append(told(self.value(one, names)))
        yield from self.plain()

    def do_do(self, names, one):
        self.value(one, names)
        yield from self.plain()

    def do_if(self, names, one, first, second):
        value = self.value(one, names)
        return (yield from self.body(second if value in (0, None) else first, names))

    def do_while(self, names, one, body):
        while True:
            self.tick()
            if self.value(one, names) in (0, None):
                return None
            result = yield from self.body(body, names)
            if result is not None:
                return result

    def do_back(self, names, one):
        return (self.value(one, names),)
        yield

    def do_throw(self, names, one):
        raise self.wrong(self.value(one, names))
        yield

    def do_try(self, names, first, name, second):
        try:
            return (yield from self.body(first, names))
        except Thrown as error:
            value = error.value
        self.put(name, value, names)
        return (yield from self.body(second, names))

    def do_yield(self, names, one):
        yield self.value(one, names)

    def value(self, one, names):
        return getattr(self, "of_" + one[0])(names, *one[1:])

    def of_integer(self, names, number):
        return number

    def of_word(self, names, word):
        return word

    def of_nothing(self, names):
        return None

    def of_name(self, names, name):
        return self.get(name, names)

    def of_work(self, names, op, one, other):
        one, other = self.value(one, names), self.value(other, names)
        if op == "same":
            return int(type(one) is type(other) and one == other)
        if type(one) is not int or type(other) is not int:
            raise self.wrong("kind")
        if op in ("quo", "rest") and other == 0:
            raise self.wrong("nought")
        result = {"add": lambda: one + other, "sub": lambda: one - other, "mul": lambda: one * other,
                  "less": lambda: int(one < other), "quo": lambda: one // other, "rest": lambda: one % other}[op]()
        if not -10 ** 30 <= result <= 10 ** 30:
            raise self.wrong("great")
        return result

    def of_cell(self, names, rows):
        return Cell({name: self.value(one, names) for name, one in rows})

    def of_field(self, names, one, name):
        one = self.value(one, names)
        if type(one) is not Cell or name not in one.fields:
            raise self.wrong("lack")
        return one.fields[name]

    def of_make(self, names, givens, body):
        return Function(("make", givens, body), names)

    def of_maker(self, names, givens, body):
        return Function(("maker", givens, body), names)

    def of_call(self, names, one, others):
        one = self.value(one, names)
        others = [self.value(other, names) for other in others]
        if type(one) is not Function or len(one.node[1]) != len(others):
            raise self.wrong("kind")
        self.tick()
        word, givens, body = one.node
        inner = Names(own_names(body) | set(givens), one.around)
        inner.values.update(zip(givens, others))
        if word == "maker":
            return Generator(self.body(body, inner))
        if self.open == 30:
            raise self.wrong("deep")
        return self.through(self.body(body, inner))

    def through(self, course):
        self.open += 1
        self.deepest = max(self.deepest, self.open)
        try:
            next(course)
            raise AssertionError("a make yields")
        except StopIteration as end:
            return None if end.value is None else end.value[0]
        finally:
            self.open -= 1

    def of_next(self, names, one):
        one = self.value(one, names)
        if type(one) is not Generator:
            raise self.wrong("kind")
        if one.state != "waits":
            raise self.wrong("over")
        self.tick()
        if self.open == 30:
            raise self.wrong("deep")
        self.open += 1
        self.deepest = max(self.deepest, self.open)
        one.state = "over"
        try:
            value = next(one.course)
            one.state = "waits"
            return value
        except StopIteration:
            pass
        finally:
            self.open -= 1
        raise self.wrong("over")

    def of_is(self, names, wanted, one):
        return int(kind(self.value(one, names)) == wanted)
