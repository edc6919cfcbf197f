"""A second Led machine without traces: a plain Machine, and a second collector that is told what each op changed."""

from reachkept.machines import Machine
from tests.collector import Collector, holds


class Follower:
    """Goes along a Machine from which nothing is freed, on a collector's own copy of the cells."""

    def __init__(self, codes, ticks, plan, schedule):
        self.machine = Machine(codes, ticks)
        self.collector = Collector(self.machine.heap(), (0,), plan)
        self.plan, self.schedule = plan, schedule
        self.cells = self.seen()
        self.ended = self.freed = 0
        self.steps = []

    def seen(self):
        heap = self.machine.heap()
        return {number: heap.fields(number) for number in heap.numbers()}

    def end(self):
        return ("lost",) if self.collector.lost else self.machine.end()

    def step(self):
        done = self.machine.done()
        told = self.machine.step()
        if self.machine.done() > done:
            self.heed()
            for _ in range(self.schedule[done % len(self.schedule)]):
                if not self.collector.lost:
                    self.collect()
        return told

    def heed(self):
        elder, self.cells = self.cells, self.seen()
        for number in self.cells:
            if number not in elder:
                self.collector.cells[number] = {}
                if self.collector.colours is not None:
                    self.collector.colours[number] = self.plan[2]
                    self.collector.scanned[number] = set()
        for number in self.cells:
            for field, value in self.cells[number].items():
                if number not in elder or field not in elder[number] or elder[number][field] != value:
                    self.collector.change(number, field, value)

    def collect(self):
        """Do a step of the collector, as [91] tells."""
        collector = self.collector
        greys = [number for number in sorted(collector.colours or {}) if collector.colours[number] == "grey"]
        if collector.colours is None:
            step = ("begin",)
        elif not greys:
            step = ("end",)
        elif self.plan[0] == "fields" and collector.opened(greys[0]):
            step = ("scan", greys[0], collector.opened(greys[0])[0])
        else:
            step = ("scan", greys[0])
        many = len(collector.cells)
        collector.do(step)
        self.steps.append(step)
        self.ended += step == ("end",)
        self.freed += many - len(collector.cells)
