"""Points 11 to 13: tell, sweep and share, what they refuse, what they put, and what becomes of the rows."""

import unittest

from support import (
    ASK, BEGIN, CALM, COUNT, DECLARE, DELIVER, LOSE, ROW, SHARE, STOP, SWEEP, TELL, TICK, UNFIT,
    Play, PlayTest, last, told,
)

FULL = {"stamp": (2, 5), "holds": 1, "host": 3, "mine": 11, "heard": 12, "asked": 13, "acked": 14, "shut": 1,
        "pshut": 1}
# A row that a sweep asks about from the time 11 on.
OVER = dict(FULL, pshut=0)


def filled(play, count):
    """The play with askings in its bag, that many."""
    for host in range(count):
        play.do(ASK, 0, host, 1, -1)
    return play


class Tell(PlayTest):
    def test_a_row_with_a_host(self):
        for s in (0, 1):
            for holds in (0, 1):
                play = Play()
                play.set_row(s, 2, **dict(FULL, holds=holds))
                self.assertEqual(play.do(TELL, s, 2), [0])
                self.assertEqual(play.bag, [[2, 1 - s, 2, 2, 5, 3, 13, holds]])

    def test_host_0_is_a_host(self):
        play = Play()
        play.set_row(0, 2, stamp=(0, 1), holds=1, host=0)
        self.assertEqual(play.do(TELL, 0, 2), [0])
        self.assertEqual(play.bag, [[2, 1, 2, 0, 1, 0, 0, 1]])

    def test_a_row_without_a_host_or_the_right(self):
        play = Play()
        play.set_row(0, 2, stamp=(2, 5), asked=13)
        self.assertEqual(play.do(TELL, 0, 2), [0])
        self.assertEqual(play.do(TELL, 1, 0), [0])
        self.assertEqual(play.bag, [[2, 1, 2, 2, 5, -1, 13, 0], [2, 0, 0, 0, 0, -1, 0, 0]])

    def test_a_row_without_a_host_but_with_the_right(self):
        for s in (0, 1):
            play = Play()
            play.set_row(s, 2, **dict(FULL, host=-1))
            self.assert_refused(-5, play, TELL, s, 2)
            self.assert_refused(-5, play, TELL, s, s)

    def test_the_row_of_another_address_does_not_count(self):
        play = Play()
        play.set_row(0, 2, **FULL)
        self.assert_refused(-5, play, TELL, 0, 0)

    def test_a_server_that_does_not_work(self):
        for spoil in UNFIT:
            play = Play()
            play.set_row(0, 2, **FULL)
            spoil(play, play.server(0))
            self.assert_refused(-4, play, TELL, 0, 2)
            self.assertEqual(play.do(TELL, 1, 2), [0])

    def test_quiet_until_now_works(self):
        play = Play()
        play.world.now = play.server(0).quiet = 4
        self.assertEqual(play.do(TELL, 0, 1), [0])

    def test_a_partner_that_is_off_may_be_told(self):
        self.assertEqual(last((BEGIN, 2, 1, 1), (STOP, 1), (TELL, 0, 1)), [0])

    def test_full_bag(self):
        play = filled(Play(4, 10, 2), 1)
        self.assertEqual(play.do(TELL, 0, 1), [0])
        self.assert_refused(-3, play, TELL, 0, 1)

    def test_the_order_of_the_refusals(self):
        play = filled(Play(4, 10, 1), 1)
        self.assert_refused(-5, play, TELL, 0, 0)
        self.assert_refused(-3, play, TELL, 0, 1)
        for spoil in UNFIT:
            play = filled(Play(4, 10, 1), 1)
            spoil(play, play.server(0))
            # Without a host and with the right, and the bag is full.
            self.assert_refused(-4, play, TELL, 0, 0)
            self.assert_refused(-4, play, TELL, 0, 1)
            self.assert_refused(-1, play, TELL, 0, 4)

    def test_it_is_put_behind_the_others(self):
        play = filled(Play(), 2)
        play.do(TELL, 0, 1)
        self.assertEqual(play.bag, [[0, 0, 0, 1, -1], [0, 0, 1, 1, -1], [2, 1, 1, 0, 0, -1, 0, 0]])

    def test_nothing_else_is_changed(self):
        play = Play()
        play.set_row(0, 2, **FULL)
        self.assertEqual(self.assert_nothing_else_changes(play, (TELL, 0, 2), "bag"), [0])

    def test_the_row_is_told_as_it_was_then(self):
        play = Play()
        play.asked(0, 7, 5)
        play.do(TELL, 0, 0)
        play.asked(0, 7, 9)
        self.assertEqual(play.bag[2], [2, 1, 0, 0, 1, 7, 10, 1])
        self.assertEqual(play.bag[4], [2, 1, 0, 0, 1, 7, 18, 1])

    def test_what_was_lost_is_told_again(self):
        line = [(BEGIN, 2, 10, 9), (ASK, 0, 7, 5, -1), (DELIVER, 0), (LOSE, 1), (ROW, 1, 0), (TELL, 0, 0), (CALM,),
                (ROW, 1, 0), (ROW, 0, 0)]
        self.assertEqual(told(*line)[4:], [
            [0, 0, 0, 0, -1, 0, 0, 0, 0, 0, 0],
            [0], [0, 3],
            [0, 0, 1, 0, 7, 0, 10, 0, 0, 0, 0],
            [0, 0, 1, 1, 7, 5, 0, 10, 10, 0, 0],
        ])


class Sweep(PlayTest):
    def test_a_shut_question_is_put_to_the_partner(self):
        for s in (0, 1):
            play = Play()
            play.world.now = 20
            play.set_row(s, 2, **OVER)
            self.assertEqual(play.do(SWEEP, s), [0, 1])
            self.assertEqual(play.bag, [[4, 1 - s, 2, 2, 5, 3, 13]])

    def test_host_0_is_a_host(self):
        play = Play()
        play.set_row(0, 2, holds=1, host=0)
        self.assertEqual(play.do(SWEEP, 0), [0, 1])

    def test_nothing_to_ask(self):
        for fields in ({"holds": 0}, {"host": -1}, {"pshut": 1}, {"mine": 21}):
            play = Play()
            play.world.now = 20
            play.set_row(0, 2, **dict(OVER, **fields))
            self.assertEqual(play.do(SWEEP, 0), [0, 0], fields)
            self.assertEqual(play.bag, [])

    def test_what_was_promised_ends_now_or_earlier(self):
        for now, count in ((10, 0), (11, 1), (12, 1)):
            play = Play()
            play.world.now = now
            play.set_row(0, 2, **OVER)
            self.assertEqual(play.do(SWEEP, 0), [0, count])

    def test_what_the_partner_asked_does_not_count(self):
        for fields in ({"heard": 99}, {"asked": 99}, {"acked": 99}, {"shut": 0}, {"stamp": (0, 0)}):
            play = Play()
            play.world.now = 20
            play.set_row(0, 2, **dict(OVER, **fields))
            self.assertEqual(play.do(SWEEP, 0), [0, 1], fields)

    def several(self, cap):
        """A world of six addresses: server 0 may ask about 0, 2, 3 and 5."""
        play = Play(6, 10, cap)
        for a in (5, 0, 3, 2):
            play.set_row(0, a, stamp=(0, a), holds=1, host=50 + a)
        return play

    def test_from_the_least_to_the_greatest(self):
        play = self.several(9)
        self.assertEqual(play.do(SWEEP, 0), [0, 4])
        self.assertEqual(play.bag, [[4, 1, a, 0, a, 50 + a, 0] for a in (0, 2, 3, 5)])

    def test_as_long_as_the_bag_has_room(self):
        for cap, ahead, count in ((9, 6, 3), (4, 0, 4), (3, 0, 3), (4, 2, 2), (3, 2, 1), (1, 0, 1), (2, 2, 0),
                                  (1, 1, 0)):
            play = filled(self.several(cap), ahead)
            self.assertEqual(play.do(SWEEP, 0), [0, count], (cap, ahead))
            self.assertEqual(len(play.bag), ahead + count)
            self.assertEqual([message[2] for message in play.bag[ahead:]], [0, 2, 3, 5][:count])

    def test_the_rows_stay(self):
        play = self.several(3)
        self.assert_nothing_else_changes(play, (SWEEP, 0), "bag")
        play = self.several(9)
        self.assert_nothing_else_changes(play, (SWEEP, 0), "bag")

    def test_again_it_asks_again(self):
        play = self.several(9)
        play.do(SWEEP, 0)
        self.assertEqual(play.do(SWEEP, 0), [0, 4])
        self.assertEqual(play.bag[:4], play.bag[4:])

    def test_a_server_that_does_not_work(self):
        for spoil in UNFIT:
            play = self.several(9)
            spoil(play, play.server(0))
            self.assert_refused(-4, play, SWEEP, 0)
            self.assertEqual(play.do(SWEEP, 1), [0, 0])

    def test_the_refusal_is_looked_at_whatever_the_bag_holds(self):
        for spoil in UNFIT:
            play = filled(self.several(1), 1)
            spoil(play, play.server(0))
            self.assert_refused(-4, play, SWEEP, 0)
            self.assert_refused(-1, play, SWEEP, 2)

    def test_quiet_until_now_works(self):
        play = self.several(9)
        play.world.now = play.server(0).quiet = 4
        self.assertEqual(play.do(SWEEP, 0), [0, 4])

    def test_of_a_new_world(self):
        self.assertEqual(told((BEGIN, 4, 1, 1), (SWEEP, 0), (SWEEP, 1))[1:], [[0, 0], [0, 0]])


class Share(PlayTest):
    def test_from_the_greatest_to_the_least(self):
        play = Play(6)
        self.assertEqual(play.do(SHARE, 0, 4096), [0, 3])
        self.assertEqual(play.bag, [[2, 1, a, 0, 1, -1, 0, 0] for a in (4, 2, 0)])
        self.assertEqual(play.do(SHARE, 1, 4096), [0, 3])
        self.assertEqual(play.bag[3:], [[2, 0, a, 0, 1, -1, 0, 0] for a in (5, 3, 1)])

    def test_fewer_than_m_were_given(self):
        for m in (0, 1, 2, 3, 4, 4096):
            play = Play(6)
            count = min(m, 3)
            self.assertEqual(play.do(SHARE, 0, m), [0, count])
            self.assertEqual([message[2] for message in play.bag], [4, 2, 0][:count])

    def test_m_0_changes_nothing(self):
        play = Play(6)
        self.assertEqual(self.assert_nothing_else_changes(play, (SHARE, 0, 0)), [0, 0])

    def test_m_counts_what_is_given_by_this_call_alone(self):
        play = Play(6)
        self.assertEqual(play.do(SHARE, 0, 2), [0, 2])
        self.assertEqual(play.do(SHARE, 0, 2), [0, 1])
        self.assertEqual(play.do(SHARE, 0, 2), [0, 0])
        self.assertEqual([message[2] for message in play.bag], [4, 2, 0])

    def test_m_does_not_count_what_is_passed_over(self):
        play = Play(6)
        play.set_row(0, 4, stamp=(0, 1), holds=1, host=9)
        self.assertEqual(play.do(SHARE, 0, 2), [0, 2])
        self.assertEqual([message[2] for message in play.bag], [2, 0])

    def test_as_long_as_the_bag_has_room(self):
        for cap, ahead, count in ((9, 7, 2), (3, 0, 3), (2, 0, 2), (4, 2, 2), (3, 2, 1), (1, 0, 1), (2, 2, 0),
                                  (1, 1, 0)):
            play = filled(Play(6, 10, cap), ahead)
            self.assertEqual(play.do(SHARE, 0, 4096), [0, count], (cap, ahead))
            self.assertEqual(len(play.bag), ahead + count)
            self.assertEqual([message[2] for message in play.bag[ahead:]], [4, 2, 0][:count])
            for a in (4, 2, 0)[:count]:
                self.assert_row(play, 0, a, stamp=(0, 1))
            for a in (4, 2, 0)[count:]:
                self.assert_row(play, 0, a, holds=1)

    def test_what_becomes_of_the_row(self):
        for s in (0, 1):
            play = Play()
            play.world.now = 20
            play.server(s).epoch = 7
            play.set_row(s, 3, **FULL)
            self.assertEqual(play.do(SHARE, s, 1), [0, 1])
            self.assert_row(play, s, 3, stamp=(7, 6))
            self.assertEqual(play.bag, [[2, 1 - s, 3, 7, 6, -1, 0, 0]])

    def test_nothing_but_the_row_and_the_bag_is_changed(self):
        play = Play()
        play.world.now = 20
        play.set_row(0, 3, **FULL)
        kept = play.server(0).rows[:3]
        partner = self.world_without(play, ("bag", "servers")), vars(play.server(1)).copy()
        play.do(SHARE, 0, 1)
        self.assertEqual(play.server(0).rows[:3], kept)
        self.assertEqual((self.world_without(play, ("bag", "servers")), vars(play.server(1))), partner)
        self.assertEqual(play.server(0).epoch, 0)

    def given(self, now=20, alone=-1, **fields):
        """How many of its one address server 0 gives, whose row has these fields."""
        play = Play(1)
        play.world.now = now
        play.server(0).alone = alone
        play.set_row(0, 0, **dict(FULL, **fields))
        return play.do(SHARE, 0, 9)[1]

    def test_without_a_host(self):
        self.assertEqual(self.given(host=-1, pshut=0), 1)

    def test_with_a_host_that_is_shut_there(self):
        self.assertEqual(self.given(), 1)
        self.assertEqual(self.given(pshut=0), 0)

    def test_without_the_right(self):
        self.assertEqual(self.given(holds=0), 0)
        self.assertEqual(self.given(holds=0, host=-1), 0)
        # Free at a server alone, but there is no right to give.
        self.assertEqual(self.given(holds=0, alone=0), 0)

    def test_alone_for_the_lead(self):
        self.assertEqual(self.given(pshut=0, alone=10), 1)
        self.assertEqual(self.given(pshut=0, alone=11), 0)
        self.assertEqual(self.given(pshut=0, alone=10, heard=20), 1)
        self.assertEqual(self.given(pshut=0, alone=10, heard=21), 0)

    def test_what_was_promised_must_be_over(self):
        for fields in ({}, {"host": -1}, {"pshut": 0, "alone": 0, "heard": 0}):
            self.assertEqual(self.given(now=11, **fields), 1, fields)
            self.assertEqual(self.given(now=10, **fields), 0, fields)

    def test_a_server_that_does_not_work(self):
        for spoil in UNFIT:
            for m in (0, 1):
                play = Play()
                spoil(play, play.server(0))
                self.assert_refused(-4, play, SHARE, 0, m)
                self.assertEqual(play.do(SHARE, 1, m), [0, m])

    def test_the_refusals_are_looked_at_whatever_the_bag_holds(self):
        for spoil in UNFIT:
            play = filled(Play(4, 10, 1), 1)
            spoil(play, play.server(0))
            self.assert_refused(-4, play, SHARE, 0, 1)
            self.assert_refused(-1, play, SHARE, 0, 4097)
            self.assert_refused(-1, play, SHARE, 0, -1)

    def test_quiet_until_now_works(self):
        play = Play()
        play.world.now = play.server(0).quiet = 4
        self.assertEqual(play.do(SHARE, 0, 9), [0, 2])

    def test_the_right_goes_over_by_the_telling(self):
        line = [(BEGIN, 4, 10, 9), (SHARE, 0, 1), (COUNT, 0), (COUNT, 1), (CALM,), (COUNT, 0), (COUNT, 1), (ROW, 1, 2),
                (SHARE, 1, 2), (CALM,), (COUNT, 0), (COUNT, 1), (ROW, 0, 2), (ROW, 1, 2)]
        self.assertEqual(told(*line)[1:], [
            [0, 1], [0, 1, 1, 0], [0, 2, 2, 0], [0, 1],
            [0, 1, 1, 0], [0, 3, 3, 0], [0, 0, 1, 1, -1, 0, 0, 0, 0, 0, 0],
            [0, 2], [0, 2], [0, 3, 3, 0], [0, 1, 1, 0],
            [0, 0, 2, 1, -1, 0, 0, 0, 0, 0, 0], [0, 0, 2, 0, -1, 0, 0, 0, 0, 0, 0],
        ])

    def test_a_lost_right_is_told_again(self):
        line = [(BEGIN, 1, 10, 9), (SHARE, 0, 1), (LOSE, 0), (COUNT, 0), (COUNT, 1), (TELL, 0, 0), (CALM,), (COUNT, 1)]
        self.assertEqual(told(*line)[3:], [[0, 0, 0, 0], [0, 0, 0, 0], [0], [0, 1], [0, 1, 1, 0]])

    def test_what_is_given_is_not_free_here_but_there(self):
        line = [
            (BEGIN, 1, 10, 9), (SHARE, 0, 1), (CALM,), (ASK, 0, 5, 5, 0), (DELIVER, 0), (ASK, 1, 6, 5, 0),
            (DELIVER, 0),
        ]
        self.assertEqual(told(*line)[4:], [[0, 0], [0], [0, 2, 4, 1, 6, 0, 5, 8, 2, 0, 0, 0, 2, 6, 10, 1]])

    def test_given_in_a_later_epoch(self):
        line = [(BEGIN, 2, 10, 9), (STOP, 1), (DECLARE, 0), (TICK, 10), (SHARE, 0, 9), (ROW, 0, 0), (ROW, 0, 1)]
        self.assertEqual(told(*line)[2:], [
            [0, 1], [0, 10], [0, 1], [0, 1, 1, 0, -1, 0, 0, 0, 0, 0, 0], [0, 0, 0, 0, -1, 0, 0, 0, 0, 0, 0],
        ])


if __name__ == "__main__":
    unittest.main()
