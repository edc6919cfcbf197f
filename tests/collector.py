"""A second collector, on plain dicts, written rule by rule, to compare courses with."""


def holds(value):
    return type(value) is tuple


class Refused(Exception):
    pass


class Collector:
    """cells is a dict from numbers to dicts of fields; colours is None when it is idle."""

    def __init__(self, heap, roots, plan):
        self.cells = {number: heap.fields(number) for number in heap.numbers()}
        self.made = max(self.cells) + 1
        self.roots, self.plan = roots, plan
        self.colours, self.scanned, self.lost = None, {}, []

    def reached(self):
        found, waiting = set(), list(self.roots)
        while waiting:
            number = waiting.pop()
            if number in self.cells and number not in found:
                found.add(number)
                waiting += [value[1] for value in self.cells[number].values() if holds(value)]
        return found

    def shade(self, value):
        if holds(value) and self.colours[value[1]] == "white":
            self.colours[value[1]] = "grey"
            self.scanned[value[1]] = set()

    def opened(self, number):
        if self.colours is None or self.colours.get(number) != "grey":
            return []
        return sorted(set(self.cells[number]) - self.scanned[number])

    def require(self, truth):
        if not truth:
            raise Refused()

    def do(self, step):
        self.require(not self.lost)
        getattr(self, step[0])(*step[1:])

    def begin(self):
        self.require(self.colours is None)
        kept = self.plan[1] == "kept"
        self.colours = {number: "white" if kept or number not in self.roots else "black" for number in self.cells}
        for root in self.roots:
            for value in [("at", root)] if kept else self.cells[root].values():
                self.shade(value)

    def scan(self, number, *fields):
        self.require(self.colours is not None and self.colours.get(number) == "grey")
        if fields:
            self.require(self.plan[0] == "fields" and fields[0] in self.opened(number))
            self.scanned[number].add(fields[0])
            self.shade(self.cells[number][fields[0]])
            return
        if self.plan[0] == "whole":
            for value in self.cells[number].values():
                self.shade(value)
        else:
            self.require(not self.opened(number))
        self.colours[number] = "black"

    def fresh(self, number, field):
        self.can_put(number, field)
        self.cells[self.made] = {}
        if self.colours is not None:
            self.colours[self.made] = self.plan[2]
            self.scanned[self.made] = set()
        self.made += 1
        self.change(number, field, ("at", self.made - 1))

    def put(self, number, field, value):
        self.can_put(number, field)
        self.require(not holds(value) or value[1] in self.reached())
        self.change(number, field, value)

    def can_put(self, number, field):
        self.require(number in self.reached())
        self.require(all(type(field) is type(other) for other in self.cells[number]))

    def change(self, number, field, value):
        lot, old, had = (), self.cells[number].get(field), field in self.cells[number]
        if self.colours is not None and (self.plan[1] == "kept" or number not in self.roots):
            lot = self.plan[{"black": 3, "grey": 4, "white": 5}[self.colours[number]]]
        if "old" in lot:
            self.shade(old)
        if self.colours is not None and not had and number in self.scanned:
            self.scanned[number].discard(field)
        self.cells[number][field] = value
        if "new" in lot:
            self.shade(value)
        if "back" in lot and holds(value):
            self.colours[number] = "grey"
            self.scanned[number] = set()

    def end(self):
        self.require(self.colours is not None and "grey" not in self.colours.values())
        if self.plan[1] == "again":
            for root in self.roots:
                for value in self.cells[root].values():
                    self.shade(value)
            while "grey" in self.colours.values():
                number = [other for other in self.cells if self.colours[other] == "grey"][-1]
                for value in self.cells[number].values():
                    self.shade(value)
                self.colours[number] = "black"
        freed = [number for number in sorted(self.cells) if self.colours[number] == "white"]
        self.lost = [number for number in freed if number in self.reached()]
        for number in freed:
            del self.cells[number]
        self.colours = None


def all_steps(cells, made):
    """All steps that might be done, on the numbers of cells and the fields "a" and "b", some of which cannot."""
    some = range(made + 1)
    found = [("begin",), ("end",)]
    for number in some:
        found.append(("scan", number))
        for field in ("a", "b"):
            found += [("scan", number, field), ("fresh", number, field)]
            found += [("put", number, field, value) for value in [0, None] + [("at", other) for other in some]]
    return found
