"""Refusals: tuples of the name of an error and its arguments, which are told without raising it at once."""

from reachkept.errors import (
    Broken, Fixed, Loose, Losing, Misplaced, Missing, NoDeed, NoExport, NoModule, NoNumber, Round,
)


def raise_refusal(refusal):
    """Raise the error that a refusal names; do nothing where it is empty."""
    if not refusal:
        return
    word = refusal[0]
    if word in ("NoExport", "Loose", "Fixed", "Misplaced"):
        _raise_of_module(word, refusal[1], refusal[2])
    if word == "Missing":
        raise Missing(refusal[1])
    if word == "Round":
        raise Round(refusal[1])
    if word == "NoDeed":
        raise NoDeed()
    if word == "NoModule":
        raise NoModule(refusal[1])
    if word == "NoNumber":
        raise NoNumber(refusal[1])
    if word == "Losing":
        raise Losing(refusal[1])
    raise Broken(refusal[1], refusal[2])


def _raise_of_module(word, home, other):
    if word == "NoExport":
        raise NoExport(home, other)
    if word == "Loose":
        raise Loose(home, other)
    if word == "Fixed":
        raise Fixed(home, other)
    raise Misplaced(home, other)
