"""Whatever is done, no two hosts ever hold one address at one time."""

import random
import unittest

from support import (
    ASK, CALM, COUNT, DECLARE, DELIVER, DOUBLE, HELD, HELLO, LOSE, PEEK, ROW, SERVER, SHARE, START, STATE, STOP, SWEEP,
    TELL, TICK, WHO, WIPE,
    Play, snapshot,
)

WEIGHTS = {
    TICK: 10, ASK: 20, DELIVER: 50, LOSE: 3, DOUBLE: 4, STOP: 3, START: 9, WIPE: 5, DECLARE: 7, HELLO: 12, TELL: 5,
    SWEEP: 9, SHARE: 3, ROW: 1, SERVER: 1, PEEK: 1, WHO: 1, HELD: 1, COUNT: 1, CALM: 3, STATE: 1,
}
ONLY_ASKING = (ROW, SERVER, PEEK, WHO, HELD, COUNT, STATE)


def some_numbers(chance, place, play, n):
    s, a = chance.randrange(2), chance.randrange(n)
    if place == TICK:
        return [chance.choice((0, 1, 2, 3, 5, 10))]
    if place == ASK:
        return [s, chance.randrange(3), chance.choice((1, 2, 5, 10, 30)), chance.randrange(-1, n)]
    if place in (DELIVER, LOSE, DOUBLE, PEEK):
        return [chance.randrange(len(play.bag) + 1)]
    if place in (TELL, ROW):
        return [s, a]
    if place == SHARE:
        return [s, chance.randrange(3)]
    if place == WHO:
        return [a]
    if place == HELD:
        return [chance.randrange(3)]
    return [] if place in (CALM, STATE) else [s]


class Safety(unittest.TestCase):
    def test_no_two_hosts_hold_one_address(self):
        for seed in range(150):
            chance = random.Random(seed)
            n = chance.choice((1, 2, 3))
            play = Play(n, chance.choice((1, 3, 5)), chance.choice((3, 8, 60)))
            for step in range(150):
                before = snapshot(play.line)
                place = chance.choices(list(WEIGHTS), list(WEIGHTS.values()))[0]
                call = [place] + some_numbers(chance, place, play, n)
                answered = play.do(*call)
                if answered[0] < 0 or place in ONLY_ASKING:
                    self.assertEqual(snapshot(play.line), before, (seed, step, call))
                self.check(play, n, (seed, step, call))

    def check(self, play, n, where):
        self.assertLessEqual(len(play.bag), play.world.cap, where)
        by_address = []
        for a in range(n):
            answered = play.do(WHO, a)
            self.assertLessEqual(answered[1], 1, where)
            by_address.extend((answered[at], a, answered[at + 1]) for at in range(2, len(answered), 2))
        by_host = []
        for h in range(3):
            answered = play.do(HELD, h)
            by_host.extend((h, answered[at], answered[at + 1]) for at in range(2, len(answered), 2))
        self.assertEqual(sorted(by_address), by_host, where)
        self.assertTrue(all(end > play.world.now for host, address, end in by_host), where)


if __name__ == "__main__":
    unittest.main()
