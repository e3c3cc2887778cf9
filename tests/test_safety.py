"""Whatever is done, no two hosts ever hold one address at one time."""

import random
import unittest

from support import ASK, DECLARE, DELIVER, DOUBLE, HELLO, LOSE, START, STOP, TICK, WIPE, Play, snapshot

WEIGHTS = {TICK: 10, ASK: 20, DELIVER: 50, LOSE: 3, DOUBLE: 4, STOP: 3, START: 9, WIPE: 5, DECLARE: 7, HELLO: 12}


def some_call(chance, play, n):
    place = chance.choices(list(WEIGHTS), list(WEIGHTS.values()))[0]
    if place == TICK:
        return place, chance.choice((0, 1, 2, 3, 5, 10))
    if place == ASK:
        return place, chance.randrange(2), chance.randrange(3), chance.choice((1, 2, 5, 10, 30)), chance.randrange(-1, n)
    if place in (DELIVER, LOSE, DOUBLE):
        return place, chance.randrange(len(play.bag) + 1)
    return place, chance.randrange(2)


class Safety(unittest.TestCase):
    def test_no_two_hosts_hold_one_address(self):
        for seed in range(150):
            chance = random.Random(seed)
            n = chance.choice((1, 2, 3))
            play = Play(n, chance.choice((1, 3, 5)), chance.choice((3, 8, 60)))
            for step in range(150):
                before = snapshot(play.line)
                call = some_call(chance, play, n)
                answered = play.do(*call)
                if answered[0] < 0:
                    self.assertEqual(snapshot(play.line), before, (seed, step, call))
                addresses = [address for host, address in play.world.holdings]
                self.assertEqual(len(addresses), len(set(addresses)), (seed, step, call))
                self.assertLessEqual(len(play.bag), play.world.cap)


if __name__ == "__main__":
    unittest.main()
