"""Second Led machines: a plain Machine, and a second collector that is told what each op changed."""

from reachkept.heaps import Heap
from reachkept.images import image, machine_of
from reachkept.machines import Machine
from reachkept.traces import gone
from tests.collector import Collector, holds


class Follower:
    """Goes along a Machine from which nothing is freed, on a collector's own copy of the cells."""

    def __init__(self, codes, ticks, plan, schedule):
        self.machine = Machine(codes, ticks)
        self.collector = Collector(self.machine.heap(), (0,), plan)
        self.plan, self.schedule = plan, schedule
        self.cells = self.seen()
        self.ended = self.freed = 0
        self.steps = []

    def seen(self):
        heap = self.machine.heap()
        return {number: heap.fields(number) for number in heap.numbers()}

    def end(self):
        return ("lost",) if self.collector.lost else self.machine.end()

    def step(self):
        done = self.machine.done()
        told = self.machine.step()
        if self.machine.done() > done:
            self.heed()
            for _ in range(self.schedule[done % len(self.schedule)]):
                if not self.collector.lost:
                    self.collect()
        return told

    def heed(self):
        elder, self.cells = self.cells, self.seen()
        for number in self.cells:
            if number not in elder:
                self.collector.cells[number] = {}
                if self.collector.colours is not None:
                    self.collector.colours[number] = self.plan[2]
                    self.collector.scanned[number] = set()
        for number in self.cells:
            for field, value in self.cells[number].items():
                if number not in elder or field not in elder[number] or elder[number][field] != value:
                    self.collector.change(number, field, value)

    def collect(self):
        """Do a step of the collector, as [91] tells."""
        collector = self.collector
        greys = [number for number in sorted(collector.colours or {}) if collector.colours[number] == "grey"]
        if collector.colours is None:
            step = ("begin",)
        elif not greys:
            step = ("end",)
        elif self.plan[0] == "fields" and collector.opened(greys[0]):
            step = ("scan", greys[0], collector.opened(greys[0])[0])
        else:
            step = ("scan", greys[0])
        many = len(collector.cells)
        collector.do(step)
        self.steps.append(step)
        self.ended += step == ("end",)
        self.freed += many - len(collector.cells)


class Works(dict):
    """What works give by [5], where they throw nothing."""

    def __contains__(self, key):
        return self.given(*key) is not None

    def __getitem__(self, key):
        return self.given(*key)

    def given(self, op, one, other):
        if type(one) is not int or type(other) is not int or op in ("quo", "rest") and other == 0:
            return None
        found = {"add": lambda: one + other, "sub": lambda: one - other, "mul": lambda: one * other,
                 "quo": lambda: one // other, "rest": lambda: one % other, "less": lambda: int(one < other)}[op]()
        return found if abs(found) <= 10 ** 30 else None


def letters(number):
    return "q" + "".join("abcdefghij"[int(sign)] for sign in str(number))


class Tracer(Follower):
    """A second Led machine with traces, which goes through them as through traces of starts, by way of images."""

    def __init__(self, codes, ticks, plan, schedule):
        Follower.__init__(self, codes, ticks, plan, schedule)
        self.codes, self.traces, self.awaited = codes, {}, None

    def place(self):
        heap = self.machine.heap()
        frame = heap.get(0, 0)[1]
        return frame, heap.get(frame, -4), heap.get(frame, -5)

    def step(self):
        if self.awaited is None:
            frame, code, op = self.place()
            told = Follower.step(self)
            if self.codes[0][code][4][op] == ("turn",) and (code, op) in self.traces and self.end() is None:
                self.awaited = (code, op)
            return told
        done = self.machine.done()
        told = self.go_through(*self.awaited)
        self.awaited = None
        self.heed()
        for _ in range(self.schedule[done % len(self.schedule)]):
            if not self.collector.lost:
                self.collect()
        return told

    def go_through(self, code, op):
        trace = self.traces[code, op]
        frame, _, _ = self.place()
        codes, cells, told, end, left, done = image(self.machine)
        cells = {number: dict(rows) for number, rows in cells}
        many = codes[0][code][1]
        plain = [number for number in cells if -9 not in cells[number]]
        start = Heap()
        forth = {("at", number): ("at", start.new({})) for number in plain}
        forth.update({("at", number): letters(number) for number in cells if number not in plain})
        back = {forth[at]: at for at in forth}
        for number in plain:
            for field, value in cells[number].items():
                start.put(forth["at", number][1], field, forth.get(value, value))
        values = [forth.get(cells[frame][at], cells[frame][at]) for at in range(many)] + [None] * (trace[0] - many)
        exit, said, heap, values = gone(trace, (start, values, Works()))
        for number in heap.numbers()[len(plain):]:
            back["at", number] = ("at", max(cells) + 1)
            cells[max(cells) + 1] = {}
        for number in heap.numbers():
            cells[back["at", number][1]] = {field: back.get(value, value) for field, value in heap.fields(number).items()}
        cells[frame].update({at: back.get(values[at], values[at]) for at in range(many)})
        cells[frame][-5] = op if exit is None else exit
        sorts = {"closure": "function", "stepper": "generator"}
        said = [sorts[cells[back[one][1]][-9]] if one in back else one for one in said]
        rows = tuple((number, tuple(sorted(cells[number].items()))) for number in sorted(cells))
        self.machine = machine_of((codes, rows, told + tuple(said), end, left, done + 1))
        return said
