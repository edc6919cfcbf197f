"""How a run of a program stands: the bodies that are run, their names, and what came of it.

What is still to be done is kept in lists, not in calls of Python in calls, so that calls of the
program may be as deep as they like, and a generator is left and gone on with as it stands.
"""

from reachkept.scopes import owned
from reachkept.values import telling


class Scope:
    """The own names of a module or of a call with their values.

    Around is the scope around it, or None; home the name of the module whose scope it is, or None;
    lent a dict from the own names of imports to tuples of a module's scope and a name in it.
    """

    def __init__(self, names, around, home, lent):
        self.held = {name: None for name in names}
        self.around = around
        self.home = home
        self.lent = lent


class Activity:
    """A body that is run: what is to be done, the next last, and the values worked out for it.

    What is to be done is a list of tuples (task, thing, many). The task "expression" works one out,
    "statement" runs one, "apply" does what is left of either when its parts, so many, are worked
    out, and "try" does nothing, but is where a throw goes on.
    """

    def __init__(self, scope, body, stepper):
        self.scope = scope
        self.stepper = stepper
        self.agenda = []
        self.worths = []
        self.plan("statement", body)

    def plan(self, task, things):
        """Put things ahead of all that is to be done, the first one first."""
        self.agenda.extend([(task, thing, 0) for thing in things[::-1]])

    def taken(self, many):
        """Take away and return the last so many values that were worked out."""
        front = len(self.worths) - many
        values = self.worths[front:]
        self.worths = self.worths[:front]
        return values


class Run:
    """A run of a Program: the stack of bodies that are run and wait, the running one last.

    It keeps what was said, the ticks that are left, the ending, or None; what is told of the
    values thrown, as threw; of those given to names of modules, as tuples (module, name, told), as
    given; and the most calls that were open.
    """

    def __init__(self, program, ticks):
        self.whole = program
        self.ticks = ticks
        self.said = []
        self.ending = None
        self.threw = []
        self.given = []
        self.most = 0
        self.stack = []
        self.homes = {}
        self.begin()

    def begin(self):
        """Begin with the next module, or end the run if there is none."""
        order = self.whole.order()
        if len(self.homes) == len(order):
            self.ending = ("done",)
            return
        name = order[len(self.homes)]
        imports, _, body = self.whole.module(name)
        lent = {own: (self.homes[home], export) for home, export, own in imports}
        scope = Scope(owned((), body), None, name, lent)
        self.homes[name] = scope
        self.stack.append(Activity(scope, body, None))

    def tick(self):
        """Use up a tick and tell whether there was one; the run ends if there was none."""
        if self.ticks == 0:
            self.ending = ("ticks",)
            return False
        self.ticks = self.ticks - 1
        return True

    def is_deep(self):
        """Tell whether as many calls are open as may be."""
        return len(self.stack) - 1 >= 30

    def enter(self, activity):
        """Run a body as an open call of the running one."""
        self.stack.append(activity)
        self.most = max(self.most, len(self.stack) - 1)

    def give(self, value):
        """Give the running body a value that was worked out for it."""
        self.stack[-1].worths.append(value)

    def bind(self, name, value):
        """Give a name that the running body uses a value."""
        scope = self.stack[-1].scope
        while name not in scope.held:
            scope = scope.around
        scope.held[name] = value
        if scope.home is not None:
            self.given.append((scope.home, name, telling(value)))

    def value_of(self, name):
        """Return the value of a name that the running body uses."""
        scope = self.stack[-1].scope
        while name not in scope.held:
            if name in scope.lent:
                home, export = scope.lent[name]
                return home.held[export]
            scope = scope.around
        return scope.held[name]

    def finish(self, value):
        """End the running body with a value."""
        activity = self.stack.pop()
        if activity.stepper is not None:
            _end(activity.stepper)
            self.throw("over")
        elif self.stack:
            self.give(value)
        else:
            self.begin()

    def throw(self, value):
        """Throw a value where the running body stands."""
        self.threw.append(telling(value))
        while self.stack:
            if self._catch(value):
                return
            activity = self.stack.pop()
            if activity.stepper is not None:
                _end(activity.stepper)
        self.ending = ("thrown", telling(value))

    def _catch(self, value):
        """Go on with the last open try of the running body, if there is one; tell whether there is."""
        activity = self.stack[-1]
        while activity.agenda:
            task, node, _ = activity.agenda.pop()
            if task == "try":
                _, _, name, body = node
                activity.worths = []
                self.bind(name, value)
                activity.plan("statement", body)
                return True
        return False


def _end(stepper):
    stepper.activity = None
    stepper.running = False
