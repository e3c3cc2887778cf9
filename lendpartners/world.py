"""A line of calls on one world, and what they answer."""

from lendpartners.calls import done
from lendpartners.queries import is_query, told
from lendpartners.whole import World

BEGIN = 0

NUMBERS = (
    ("n", "lead", "cap"),
    ("t",),
    ("server", "host", "length", "want"),
    ("k",),
    ("k",),
    ("k",),
    ("server",),
    ("server",),
    ("server",),
    ("server",),
    ("server",),
    ("server", "address"),
    ("server",),
    ("server", "m"),
    ("server", "address"),
    ("server",),
    ("k",),
    ("address",),
    ("host",),
    ("server",),
    (),
    (),
)

RANGES = {
    "n": (1, 4096),
    "lead": (1, 1000000000),
    "cap": (1, 10000),
    "t": (0, 1000000000000),
    "server": (0, 1),
    "host": (0, 281474976710655),
    "length": (1, 1000000000),
    "m": (0, 4096),
}


class Line:
    """The world is None until a begin is done."""

    def __init__(self):
        self.world = None


def range_of(world, name):
    if name == "want":
        return (-1, world.size - 1)
    if name == "address":
        return (0, world.size - 1)
    if name == "k":
        return (0, len(world.bag) - 1)
    return RANGES[name]


def is_in_range(world, name, number):
    bounds = range_of(world, name)
    return bounds[0] <= number and number <= bounds[1]


def all_in_range(world, names, numbers):
    for name, number in zip(names, numbers):
        if not is_in_range(world, name, number):
            return False
    return True


def is_place(place):
    return 0 <= place and place < len(NUMBERS)


def answer(line, place, numbers):
    """What one call answers, the refusals that all calls share ahead of its own."""
    if not is_place(place) or len(numbers) != len(NUMBERS[place]):
        return [-8]
    if place != BEGIN and line.world is None:
        return [-9]
    if not all_in_range(line.world, NUMBERS[place], numbers):
        return [-1]
    if place == BEGIN:
        line.world = World(numbers[0], numbers[1], numbers[2])
        return [0]
    if is_query(place):
        return told(line.world, place, numbers)
    return done(line.world, place, numbers)


def end_of_call(calls, begin):
    """Where the call that begins there ends; one of no known place takes all that is left."""
    if not is_place(calls[begin]):
        return len(calls)
    return begin + 1 + len(NUMBERS[calls[begin]])


def answers(calls):
    line = Line()
    gathered = []
    at = 0
    while at < len(calls):
        end = end_of_call(calls, at)
        answered = answer(line, calls[at], calls[at + 1:end])
        gathered.append(len(answered))
        gathered.extend(answered)
        at = end
    return gathered
