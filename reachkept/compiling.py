"""Programs compiled to codes."""

from reachkept.drafts import Draft
from reachkept.errors import Loose, NoModule
from reachkept.scopes import owned
from reachkept.writing import write


def compiled(program):
    """Return sound codes by which a machine does what reading a Program tells."""
    drafts = []
    homes = {}
    for name in program.order():
        imports, _, body = program.module(name)
        lent = {own: (homes[home].index, homes[home].names.index(export)) for home, export, own in imports}
        homes[name] = Draft(len(drafts), "module", (), body, None, lent)
        drafts.append(homes[name])
    many = len(drafts)
    at = 0
    # Writing one puts the makes in it behind the others, so that each stands behind what is around it.
    while at < len(drafts):
        write(drafts[at], drafts)
        at += 1
    return tuple([draft.code() for draft in drafts]), tuple(range(many))


def variable(program, codes, module, name):
    """Return the register of an own name of a module that is run, in the module's frame."""
    if module not in program.order():
        raise NoModule(module)
    names = owned((), program.module(module)[2])
    if name not in names:
        raise Loose(module, name)
    return names.index(name)
