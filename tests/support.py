"""What the tests share: lines of calls, and a play whose world can be looked into."""

import unittest

from lendpartners.rows import NONE, Row
from lendpartners.world import Line, answer, answers

(
    BEGIN, TICK, ASK, DELIVER, LOSE, DOUBLE, STOP, START, WIPE, DECLARE, HELLO,
    TELL, SWEEP, SHARE, ROW, SERVER, PEEK, WHO, HELD, COUNT, CALM, STATE,
) = range(22)

HUGE = 10 ** 18
LAST_HOST = 281474976710655


def flat(calls):
    return [number for call in calls for number in call]


def told(*calls):
    """What each of the calls answers, as lendpartners.world.answers tells it."""
    rest = answers(flat(calls))
    rows = []
    while rest:
        rows.append(rest[1:1 + rest[0]])
        rest = rest[1 + rest[0]:]
    return rows


def last(*calls):
    return told(*calls)[-1]


def snapshot(value):
    """A value of plain lists, tuples and texts that is the same where the world is the same."""
    if isinstance(value, (list, tuple)):
        return [snapshot(item) for item in value]
    if isinstance(value, dict):
        return sorted((repr(key), snapshot(item)) for key, item in value.items())
    if hasattr(value, "__dict__"):
        return [value.__class__.__name__, snapshot(vars(value))]
    return value


class Play:
    """A line of calls whose world the tests may look into and set up."""

    def __init__(self, n=4, lead=10, cap=100):
        self.line = Line()
        self.do(BEGIN, n, lead, cap)

    @property
    def world(self):
        return self.line.world

    @property
    def bag(self):
        return [message.shown() for message in self.world.bag]

    def do(self, place, *numbers):
        return answer(self.line, place, list(numbers))

    def server(self, s):
        return self.world.servers[s]

    def row(self, s, a):
        return vars(self.server(s).rows[a])

    def set_row(self, s, a, **fields):
        self.server(s).rows[a] = made_row(**fields)

    def bring(self, message):
        """Put a message into the bag by hand and deliver it."""
        self.world.bag.append(message)
        return self.do(DELIVER, len(self.world.bag) - 1)

    def asked(self, s, host, length, want=-1):
        """Ask, and deliver the asking at once."""
        self.do(ASK, s, host, length, want)
        return self.do(DELIVER, len(self.world.bag) - 1)


def made_row(**fields):
    row = Row((0, 0))
    for name, value in fields.items():
        assert name in vars(row)
        setattr(row, name, value)
    return row


def off(play, server):
    server.on = 0


def waiting(play, server):
    server.waits = 1


def quiet(play, server):
    server.quiet = play.world.now + 1


UNFIT = (off, waiting, quiet)


class PlayTest(unittest.TestCase):
    def assert_row(self, play, s, a, **fields):
        """The row is a row of nothing but for these fields."""
        self.assertEqual(play.row(s, a), vars(made_row(**fields)))

    def assert_refused(self, refusal, play, place, *numbers):
        """The call answers the refusal alone, and all is as it was."""
        before = snapshot(play.line)
        self.assertEqual(play.do(place, *numbers), [refusal], (place, numbers))
        self.assertEqual(snapshot(play.line), before, (place, numbers))

    def assert_nothing_else_changes(self, play, call, *apart):
        """The call changes nothing of the world but the values named; gives back what it answers."""
        before = self.world_without(play, apart)
        answered = play.do(*call)
        self.assertEqual(self.world_without(play, apart), before, call)
        return answered

    def world_without(self, play, apart):
        return snapshot({name: value for name, value in vars(play.world).items() if name not in apart})

    def assert_nothing_comes(self, play, message):
        """The delivered message puts nothing and changes nothing."""
        before = snapshot(play.line)
        self.assertEqual(play.bring(message), [0, 0])
        self.assertEqual(snapshot(play.line), before)
