"""Whether parts of heaps are alike, and parts of heaps put together anew."""

from reachkept.heaps import Heap
from reachkept.kinds import is_at


def matched(one, ones, other, others):
    """Return the dict from the cells reached from ones to their partners reached from others, or None."""
    partners = {}
    taken = {}
    waiting = list(zip(ones, others))
    while waiting:
        left, right = waiting.pop()
        if not is_at(left) or not is_at(right):
            if left != right:
                return None
        elif left[1] in partners or right[1] in taken:
            if partners.get(left[1]) != right[1]:
                return None
        else:
            partners[left[1]] = right[1]
            taken[right[1]] = True
            rows = _paired(one.fields(left[1]), other.fields(right[1]))
            if rows is None:
                return None
            waiting.extend(rows)
    return {number: partners[number] for number in sorted(partners)}


def _paired(one, other):
    """Return the list of the pairs of values of the same fields, or None if the fields are unlike."""
    if list(one) != list(other):
        return None
    return [(one[field], other[field]) for field in one]


def packed(heap, values):
    """Return a new Heap with just the cells reached from values, numbered as they are met, and the values."""
    places = _places(heap, values)
    small = Heap()
    for _ in places:
        small.new({})
    for number in places:
        fields = heap.fields(number)
        for field in fields:
            small.put(places[number], field, _led(fields[field], places))
    return small, [_led(value, places) for value in values]


def _places(heap, values):
    """Return the dict from the cells reached from values to their new numbers, in the order of these."""
    places = {}
    waiting = list(values)
    at = 0
    while at < len(waiting):
        value = waiting[at]
        if is_at(value) and value[1] not in places:
            places[value[1]] = len(places)
            waiting.extend(list(heap.fields(value[1]).values()))
        at += 1
    return places


def _led(value, places):
    return ("at", places[value[1]]) if is_at(value) else value
