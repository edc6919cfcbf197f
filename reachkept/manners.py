"""Programs run in all manners: read, by machines, with a collector, and with traces."""

from reachkept.compiling import compiled
from reachkept.led import Led
from reachkept.reading import read
from reachkept.recording import is_turn, trace_at, truths_ahead
from reachkept.runs import ran
from reachkept.shortening import lean


def ran_led(program, ticks, plan, schedule):
    """Return what a Led machine of a compiled Program tells, how it ends, and how many ticks are left."""
    led = Led(compiled(program), ticks, plan, schedule)
    led.run()
    return led.told(), led.end(), led.left()


def ran_traced(program, ticks, plan, schedule):
    """Return what a Led machine tells that lays lean traces at turns, how it ends, and the ticks left."""
    codes = compiled(program)
    led = Led(codes, ticks, plan, schedule)
    met = {}
    while led.end() is None:
        place = led.coming()
        if place is not None and is_turn(codes, place[1], place[2]):
            met[place] = met.get(place, 0) + 1
            if met[place] == 2:
                _try_to_lay(led, codes, place)
        led.step()
    return led.told(), led.end(), led.left()


def all_manners(program, ticks, plan, schedule):
    """Return the list of what a Program tells when it is read, and run by itself, led, and traced."""
    return [
        read(program, ticks),
        ran(program, ticks),
        ran_led(program, ticks, plan, schedule),
        ran_traced(program, ticks, plan, schedule),
    ]


def greatest(program, ticks, plan, schedule):
    """Return the greatest number of cells that a Led machine has behind its ops and the collector's steps."""
    led = Led(compiled(program), ticks, plan, schedule)
    most = 0
    while led.end() is None:
        count = led.done()
        led.step()
        if led.done() > count:
            most = max(most, led.many_cells())
    return most


def _try_to_lay(led, codes, place):
    """Lay the lean trace of the way that a Led machine goes from a turn, if there is a small one."""
    _, code, op = place
    if (code, op) in led.laid() or codes[0][code][1] > 6:
        return
    truths = truths_ahead(led)
    if truths is None:
        return
    trace = trace_at(codes, code, op, truths)
    many = len([step for step in trace[2] if step[1] in ("load", "store")])
    if len(trace[2]) <= 7 and many <= 4:
        led.lay(code, op, truths, lean(trace))
