"""Point 20: calm delivers the message at place 0, again and again, until the bag is empty."""

import random
import unittest

from support import (
    ASK, BEGIN, CALM, COUNT, DECLARE, DELIVER, DOUBLE, HELLO, ROW, SERVER, SHARE, START, STATE, STOP, SWEEP, TELL, TICK,
    UNFIT, WHO, WIPE,
    Play, PlayTest, last, snapshot, told,
)
from lendpartners.messages import Knowing, Promise, Shut


def delivered_one_by_one(play):
    """Empty the bag by deliver alone; how many were delivered."""
    count = 0
    while play.bag:
        play.do(DELIVER, 0)
        count += 1
    return count


class Calm(PlayTest):
    def test_an_empty_bag(self):
        self.assertEqual(told((BEGIN, 2, 10, 1), (CALM,), (CALM,))[1:], [[0, 0], [0, 0]])
        play = Play()
        play.asked(0, 7, 5)
        play.do(CALM)
        self.assertEqual(self.assert_nothing_else_changes(play, (CALM,)), [0, 0])

    def test_messages_that_bring_forth_nothing(self):
        play = Play()
        play.world.bag = [Promise(7, 0, 5), Knowing(0, 0, (0, 0), 4), Shut(0, 0, (0, 0))]
        self.assertEqual(play.do(CALM), [0, 3])
        self.assertEqual(play.bag, [])
        self.assertEqual(play.world.holdings, {(7, 0): 5})
        self.assert_row(play, 0, 0, holds=1, acked=4, pshut=1)

    def test_what_is_brought_forth_is_delivered_too(self):
        # An asking, its promise and its telling, and the telling's knowing.
        line = [(BEGIN, 2, 10, 9), (ASK, 0, 7, 5, -1), (CALM,), (STATE,), (WHO, 0), (ROW, 0, 0), (ROW, 1, 0)]
        self.assertEqual(told(*line)[2:], [
            [0, 4], [0, 0, 0, 0], [0, 1, 7, 5], [0, 0, 1, 1, 7, 5, 0, 10, 10, 0, 0], [0, 0, 1, 0, 7, 0, 10, 0, 0, 0, 0],
        ])

    def test_a_shut_question_and_its_shut(self):
        line = [(BEGIN, 2, 10, 9), (ASK, 0, 7, 5, -1), (CALM,), (TICK, 5), (SWEEP, 0), (CALM,), (STATE,), (ROW, 0, 0)]
        self.assertEqual(told(*line)[4:], [[0, 1], [0, 2], [0, 5, 0, 0], [0, 0, 1, 1, 7, 5, 0, 10, 10, 0, 1]])

    def test_a_hello_and_its_table(self):
        line = [(BEGIN, 2, 10, 9), (STOP, 1), (START, 1), (HELLO, 1), (CALM,), (SERVER, 1), (STATE,)]
        self.assertEqual(told(*line)[4:], [[0, 2], [0, 1, 0, 1, 0, 0, 0, 1, -1], [0, 0, 0, 1]])

    def test_the_oldest_first(self):
        # Host 5 asks first and gets the only address.
        line = [(BEGIN, 1, 10, 9), (ASK, 0, 5, 5, -1), (ASK, 0, 6, 5, -1), (CALM,), (WHO, 0)]
        self.assertEqual(told(*line)[3:], [[0, 5], [0, 1, 5, 5]])

    def test_messages_put_on_the_way_come_behind_the_others(self):
        # The doubled asking is handled ahead of the first one's knowing, so both promise no further than the lead.
        line = [(BEGIN, 1, 10, 9), (ASK, 0, 5, 30, -1), (DOUBLE, 0), (CALM,), (ROW, 0, 0), (WHO, 0)]
        self.assertEqual(told(*line)[3:], [[0, 8], [0, 0, 1, 1, 5, 10, 0, 60, 60, 0, 0], [0, 1, 5, 10]])

    def test_time_does_not_go_on(self):
        self.assertEqual(last((BEGIN, 1, 10, 9), (TICK, 3), (ASK, 0, 5, 5, -1), (CALM,), (STATE,)), [0, 3, 0, 0])

    def test_messages_are_lost_where_the_bag_is_full(self):
        # Room is made for the promise alone, so neither the telling nor a knowing comes.
        line = [(BEGIN, 2, 10, 1), (ASK, 0, 7, 5, -1), (CALM,), (WHO, 0), (ROW, 0, 0), (ROW, 1, 0)]
        self.assertEqual(told(*line)[2:], [
            [0, 2], [0, 1, 7, 5], [0, 0, 1, 1, 7, 5, 0, 10, 0, 0, 0], [0, 0, 0, 0, -1, 0, 0, 0, 0, 0, 0],
        ])

    def test_a_bag_that_holds_cap_messages(self):
        # Each asking's telling is lost; the promises are held.
        line = [
            (BEGIN, 4, 10, 2), (ASK, 0, 7, 5, -1), (ASK, 0, 8, 5, -1), (CALM,), (STATE,), (COUNT, 0), (COUNT, 1),
            (WHO, 0), (WHO, 2),
        ]
        self.assertEqual(told(*line)[3:], [
            [0, 4], [0, 0, 0, 0], [0, 2, 0, 2], [0, 2, 2, 0], [0, 1, 7, 5], [0, 1, 8, 5],
        ])

    def test_a_little_more_room(self):
        # With room for three the first one's telling is put too; the second one's is lost.
        line = [(BEGIN, 4, 10, 3), (ASK, 0, 7, 5, -1), (ASK, 0, 8, 5, -1), (CALM,), (COUNT, 0), (COUNT, 1)]
        self.assertEqual(told(*line)[3:], [[0, 6], [0, 2, 0, 2], [0, 2, 2, 1]])

    def test_servers_that_do_not_work(self):
        for spoil in UNFIT:
            play = Play()
            play.do(ASK, 0, 7, 5, -1)
            play.do(TELL, 1, 0)
            spoil(play, play.server(0))
            before = snapshot(play.world.servers)
            self.assertEqual(play.do(CALM), [0, 2])
            self.assertEqual(snapshot(play.world.servers), before)
            self.assertEqual(play.bag, [])

    def test_a_partner_that_does_not_work(self):
        for spoil in UNFIT:
            play = Play()
            play.do(ASK, 0, 7, 5, -1)
            spoil(play, play.server(1))
            self.assertEqual(play.do(CALM), [0, 3])
            self.assert_row(play, 0, 0, stamp=(0, 1), holds=1, host=7, mine=5, asked=10)
            self.assert_row(play, 1, 0)

    def test_with_both_servers_off(self):
        line = [(BEGIN, 2, 10, 9), (ASK, 0, 7, 5, -1), (TELL, 1, 0), (STOP, 0), (STOP, 1), (CALM,), (STATE,), (CALM,)]
        self.assertEqual(told(*line)[5:], [[0, 2], [0, 0, 0, 0], [0, 0]])

    def test_a_server_starts_to_work_on_the_way(self):
        # The asking behind the hello is handled ahead of the table: server 1 waits still.
        line = [(BEGIN, 2, 10, 9), (STOP, 1), (START, 1), (HELLO, 1), (ASK, 1, 7, 5, -1), (CALM,), (WHO, 1)]
        self.assertEqual(told(*line)[5:], [[0, 3], [0, 0]])

    def test_many_messages_are_gone_through_by_a_loop(self):
        line = [(BEGIN, 4096, 10, 10000), (SHARE, 0, 4096), (SHARE, 1, 4096), (STATE,), (CALM,), (COUNT, 0), (COUNT, 1),
                (ROW, 0, 4095), (ROW, 1, 4095)]
        self.assertEqual(told(*line)[1:], [
            [0, 2048], [0, 2048], [0, 0, 4096, 0], [0, 4096], [0, 2048, 2048, 0], [0, 2048, 2048, 0],
            [0, 0, 1, 1, -1, 0, 0, 0, 0, 0, 0], [0, 0, 1, 0, -1, 0, 0, 0, 0, 0, 0],
        ])

    def test_as_deliver_of_place_0_does_it(self):
        for seed in range(60):
            chance = random.Random(seed)
            calls = [(BEGIN, 3, 4, chance.choice((1, 2, 5, 30)))]
            for step in range(40):
                s = chance.randrange(2)
                calls.append(chance.choice((
                    (ASK, s, chance.randrange(3), chance.choice((2, 9)), chance.randrange(-1, 3)), (TICK, 2), (STOP, s),
                    (START, s), (WIPE, s), (HELLO, s), (DECLARE, s), (SWEEP, s), (SHARE, s, 1), (TELL, s, 1),
                    (DOUBLE, 0), (DELIVER, 0), (ASK, s, 1, 5, -1), (ASK, s, 2, 5, -1),
                )))
            one, other = Play(), Play()
            for call in calls:
                one.do(*call)
                other.do(*call)
            self.assertEqual(one.do(CALM), [0, delivered_one_by_one(other)], seed)
            self.assertEqual(snapshot(one.line), snapshot(other.line), seed)


if __name__ == "__main__":
    unittest.main()
