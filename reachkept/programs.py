"""Programs: modules by their names, with a main one."""

from reachkept.errors import NoModule, Wrong
from reachkept.forms import is_module
from reachkept.kinds import is_name
from reachkept.refusals import raise_refusal
from reachkept.scopes import loose, misplaced, outward, owned


class Program:
    """A dict from names to modules and the name of the main one, that hang together."""

    def __init__(self, modules, main):
        if not _are_modules(modules):
            raise Wrong(0)
        if not is_name(main):
            raise Wrong(1)
        raise_refusal(refusal(modules, main))
        self._modules = dict(modules)
        self._main = main

    def __eq__(self, other):
        return isinstance(other, Program) and self._modules == other._modules and self._main == other._main

    def main(self):
        """Return the name of the main module."""
        return self._main

    def modules(self):
        """Return the ascending list of the names of the modules."""
        return sorted(self._modules)

    def module(self, name):
        """Return the module with a name."""
        if not is_name(name) or name not in self._modules:
            raise NoModule(name)
        return self._modules[name]

    def order(self):
        """Return the list of the modules that are run, in order."""
        order = []
        # The way from the main module to the one that is looked at; no way leads back, see Round.
        way = [self._main]
        while way:
            lacking = [home for home in _imported(self._modules[way[-1]]) if home not in order]
            if lacking:
                way.append(lacking[0])
            else:
                order.append(way.pop())
        return order

    def leads(self, name):
        """Return the ascending list of the modules to which the imports of one lead."""
        if not is_name(name) or name not in self._modules:
            raise NoModule(name)
        return _led_to(self._modules, name)

    def with_module(self, name, module):
        """Return the Program with a module in the place of the one with the name, or beside the others."""
        if not is_name(name):
            raise Wrong(0)
        if not is_module(module):
            raise Wrong(1)
        modules = dict(self._modules)
        modules[name] = module
        return Program(modules, self._main)


def _are_modules(thing):
    if not isinstance(thing, dict) or len(thing) == 0:
        return False
    return all([is_name(name) and is_module(thing[name]) for name in thing])


def _imported(module):
    """Return the list of the names of the modules that a module imports from."""
    return [home for home, _, _ in module[0]]


def _imports_own(module):
    """Return the list of the own names of a module's imports."""
    return [own for _, _, own in module[0]]


def _led_to(modules, name):
    found = {}
    waiting = [name]
    while waiting:
        home = waiting.pop()
        for lead in _imported(modules[home]):
            if lead not in found:
                found[lead] = True
                waiting.append(lead)
    return sorted(found)


def refusal(modules, main):
    """Return the tuple of the name and the arguments of the first error that modules and a main one have.

    It is empty where they have none. There may be no modules here.
    """
    missing = _missing(modules, main)
    if missing:
        return "Missing", min(missing)
    rounds = [name for name in modules if name in _led_to(modules, name)]
    if rounds:
        return "Round", min(rounds)
    for word, found in (
        ("NoExport", _not_exported(modules)),
        ("Loose", [(home, name) for home in modules for name in _loose_in(modules[home])]),
        ("Fixed", [(home, name) for home in modules for name in _fixed_in(modules[home])]),
        ("Misplaced", [(home, word) for home in modules for word in misplaced(modules[home][2], "module")]),
    ):
        if found:
            return (word,) + min(found)
    return ()


def _missing(modules, main):
    names = [main]
    for name in modules:
        names.extend(_imported(modules[name]))
    return [name for name in names if name not in modules]


def _not_exported(modules):
    """Return the list of the tuples of a module and a name that it should export, and does not or cannot."""
    found = []
    for name in modules:
        imports, exports, body = modules[name]
        own = owned((), body)
        found.extend([(name, export) for export in exports if export not in own])
        found.extend([(home, export) for home, export, _ in imports if export not in modules[home][1]])
    return found


def _loose_in(module):
    return loose(_imports_own(module), module[2])


def _fixed_in(module):
    """Return the list of the own names of imports that the module, or a make in it, gives a value."""
    given = owned((), module[2]) + [name for use, name in outward((), module[2]) if use == "put"]
    return [own for own in _imports_own(module) if own in given]
