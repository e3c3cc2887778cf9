"""The eight sorts of message, each delivered at a server that handles it and at one that does not."""

import unittest

from support import (
    ASK, BEGIN, DECLARE, DELIVER, HELLO, NONE, START, STOP, TICK, UNFIT, WIPE,
    Play, PlayTest, last, made_row, snapshot, told,
)
from lendpartners.messages import Asking, Hello, Knowing, Promise, Shut, ShutQuestion, Table, Telling


class AskingFindsAnAddress(PlayTest):
    def promised(self, play, s, host, want):
        """The address that was promised, or None."""
        answered = play.asked(s, host, 5, want)
        return answered[5] if answered[1] else None

    def test_wanted_and_kept_goes_first(self):
        play = Play(8)
        play.set_row(0, 2, host=5, holds=1)
        play.set_row(0, 4, host=5)
        self.assertEqual(self.promised(play, 0, 5, 4), 4)

    def test_the_least_kept_goes_ahead_of_a_wanted_free_one(self):
        play = Play(8)
        play.set_row(0, 3, host=5)
        play.set_row(0, 6, host=5, holds=1)
        self.assertEqual(self.promised(play, 0, 5, 0), 3)
        self.assertEqual(self.promised(play, 0, 5, -1), 3)

    def test_the_wanted_free_one_goes_ahead_of_the_least(self):
        self.assertEqual(self.promised(Play(8), 0, 5, 4), 4)

    def test_the_least_free_one(self):
        self.assertEqual(self.promised(Play(8), 0, 5, -1), 0)
        self.assertEqual(self.promised(Play(8), 1, 5, -1), 1)
        self.assertEqual(self.promised(Play(8), 0, 5, 3), 0)

    def test_the_wanted_one_of_another_host_is_not_kept(self):
        play = Play(8)
        play.set_row(0, 4, host=6, holds=1)
        self.assertEqual(self.promised(play, 0, 5, 4), 0)

    def test_a_shut_row_is_not_kept(self):
        play = Play(8)
        play.set_row(0, 3, host=5, shut=1)
        play.set_row(0, 4, host=5, shut=1, holds=1)
        self.assertEqual(self.promised(play, 0, 5, 4), 0)
        self.assertEqual(self.promised(play, 0, 6, -1), 2)

    def test_a_row_of_host_0_is_kept_and_not_none(self):
        play = Play(2)
        self.assertEqual(self.promised(play, 0, 0, -1), 0)
        self.assertEqual(self.promised(play, 0, 0, -1), 0)
        self.assertIsNone(self.promised(play, 0, 1, -1))

    def test_none_at_all(self):
        play = Play(2)
        play.set_row(0, 0, host=6, holds=1)
        self.assert_nothing_comes(play, Asking(0, 5, 5, -1))
        self.assert_nothing_comes(play, Asking(0, 5, 5, 0))
        self.assert_nothing_comes(play, Asking(0, 5, 5, 1))


class FreeAddresses(PlayTest):
    """An address is free or not, seen by whether a host with no row gets it."""

    def is_free(self, alone=NONE, now=20, **fields):
        play = Play(1)
        play.world.now = now
        play.set_row(0, 0, **fields)
        play.server(0).alone = alone
        return play.asked(0, 99, 5)[1] == 2

    def test_holds_and_no_host(self):
        self.assertTrue(self.is_free(holds=1))
        self.assertFalse(self.is_free(holds=0))
        self.assertFalse(self.is_free(holds=1, host=5))
        self.assertFalse(self.is_free(holds=1, host=0))

    def test_holds_and_pshut(self):
        self.assertTrue(self.is_free(holds=1, host=5, pshut=1))
        self.assertFalse(self.is_free(holds=0, host=5, pshut=1))

    def test_mine_is_over(self):
        self.assertTrue(self.is_free(holds=1, mine=20))
        self.assertFalse(self.is_free(holds=1, mine=21))
        self.assertTrue(self.is_free(holds=1, host=5, pshut=1, mine=20))
        self.assertFalse(self.is_free(holds=1, host=5, pshut=1, mine=21))
        self.assertFalse(self.is_free(alone=0, mine=21))

    def test_alone(self):
        # The lead is 10, now is 20.
        self.assertTrue(self.is_free(alone=10, host=5))
        self.assertTrue(self.is_free(alone=10, host=5, mine=20, heard=20))
        self.assertFalse(self.is_free(alone=11, host=5))
        self.assertFalse(self.is_free(alone=10, host=5, heard=21))
        self.assertFalse(self.is_free(alone=10, heard=21))
        self.assertTrue(self.is_free(alone=0))

    def test_alone_since_the_beginning(self):
        self.assertTrue(self.is_free(alone=0, now=10, host=5))
        self.assertFalse(self.is_free(alone=0, now=9, host=5))

    def test_heard_matters_to_the_alone_only(self):
        self.assertTrue(self.is_free(holds=1, heard=21))


class AskingBindsAndPromises(PlayTest):
    def test_a_free_row_is_bound(self):
        play = Play(1)
        play.server(0).epoch = 6
        play.set_row(0, 0, stamp=(3, 8), holds=1, host=5, mine=1, heard=2, asked=900, acked=800, shut=1, pshut=1)
        play.world.now = 20
        answered = play.asked(0, 7, 4)
        self.assertEqual(answered, [0, 2, 4, 1, 7, 0, 24, 8, 2, 1, 0, 6, 9, 7, 28, 1])
        self.assert_row(play, 0, 0, stamp=(6, 9), holds=1, host=7, mine=24, asked=28)

    def test_a_free_row_that_the_alone_does_not_hold_is_held_then(self):
        play = Play(2)
        play.do(STOP, 1)
        play.do(DECLARE, 0)
        play.do(TICK, 10)
        answered = play.asked(0, 7, 4, 1)
        self.assertEqual(answered, [0, 2, 4, 1, 7, 1, 14, 8, 2, 1, 1, 1, 1, 7, 18, 1])
        self.assert_row(play, 0, 1, stamp=(1, 1), holds=1, host=7, mine=14, asked=18)

    def test_a_kept_row_keeps_its_stamp_and_the_rest(self):
        play = Play(2)
        play.server(1).epoch = 6
        play.set_row(1, 0, stamp=(3, 8), host=7, mine=30, heard=40, asked=50, acked=60, pshut=1)
        answered = play.asked(1, 7, 20)
        self.assertEqual(answered, [0, 2, 4, 1, 7, 0, 20, 8, 2, 0, 0, 3, 8, 7, 50, 0])
        self.assert_row(play, 1, 0, stamp=(3, 8), host=7, mine=30, heard=40, asked=50, acked=60, pshut=1)

    def test_the_later_mine_and_asked_are_kept(self):
        play = Play(1)
        play.set_row(0, 0, stamp=(0, 1), host=7, holds=1, mine=3, asked=5)
        play.asked(0, 7, 4)
        self.assert_row(play, 0, 0, stamp=(0, 1), host=7, holds=1, mine=4, asked=8)

    def test_the_end(self):
        # (acked, len, end): now is 20, the lead is 10.
        for acked, length, end in ((0, 9, 29), (0, 10, 30), (0, 11, 30), (0, 1000000000, 30), (30, 15, 30),
                                   (31, 15, 31), (34, 15, 34), (35, 15, 35), (36, 15, 35), (90, 5, 25), (10, 30, 30)):
            play = Play(1)
            play.world.now = 20
            play.set_row(0, 0, stamp=(0, 1), host=7, holds=1, acked=acked)
            self.assertEqual(play.asked(0, 7, length)[2:7], [4, 1, 7, 0, end])
            self.assertEqual(play.row(0, 0)["mine"], end)
            self.assertEqual(play.row(0, 0)["asked"], 20 + 2 * length)

    def test_the_end_grows_when_the_partner_knows(self):
        line = [(BEGIN, 2, 10, 9), (ASK, 0, 7, 50, -1), (DELIVER, 0), (DELIVER, 1), (DELIVER, 1), (ASK, 0, 7, 50, -1),
                (DELIVER, 1)]
        self.assertEqual(told(*line)[2:], [
            [0, 2, 4, 1, 7, 0, 10, 8, 2, 1, 0, 0, 1, 7, 100, 1],
            [0, 1, 6, 3, 0, 0, 0, 1, 100],
            [0, 0],
            [0],
            [0, 2, 4, 1, 7, 0, 50, 8, 2, 1, 0, 0, 1, 7, 100, 1],
        ])

    def test_a_server_that_does_not_work(self):
        for spoil in UNFIT:
            play = Play()
            spoil(play, play.server(0))
            self.assert_nothing_comes(play, Asking(0, 7, 5, -1))

    def test_quiet_until_now_works(self):
        play = Play()
        play.world.now = play.server(0).quiet = 4
        self.assertEqual(play.asked(0, 7, 5)[1], 2)

    def test_a_started_server_waits_and_a_wiped_one_too(self):
        for between in ([], [(WIPE, 1)]):
            line = [(BEGIN, 2, 10, 9), (STOP, 1)] + between + [(START, 1), (ASK, 1, 7, 5, -1), (DELIVER, 0)]
            self.assertEqual(last(*line), [0, 0])

    def test_the_other_server_is_left_alone(self):
        play = Play()
        before = snapshot(play.server(1))
        play.asked(0, 7, 5)
        self.assertEqual(snapshot(play.server(1)), before)

    def test_handled_as_the_server_is_when_it_is_delivered(self):
        line = [(BEGIN, 2, 10, 9), (ASK, 0, 7, 5, -1), (TICK, 3), (DELIVER, 0)]
        self.assertEqual(last(*line), [0, 2, 4, 1, 7, 0, 8, 8, 2, 1, 0, 0, 1, 7, 13, 1])


class PromiseMessage(PlayTest):
    def test_a_new_holding(self):
        play = Play()
        self.assertEqual(play.bring(Promise(7, 2, 5)), [0, 0])
        self.assertEqual(play.world.holdings, {(7, 2): 5})

    def test_the_greater_end_stays(self):
        play = Play()
        for end, stays in ((5, 5), (9, 9), (4, 9), (9, 9)):
            play.bring(Promise(7, 2, end))
            self.assertEqual(play.world.holdings, {(7, 2): stays})

    def test_of_another_host_or_address(self):
        play = Play()
        play.bring(Promise(7, 2, 5))
        play.bring(Promise(7, 3, 6))
        play.bring(Promise(8, 1, 4))
        self.assertEqual(play.world.holdings, {(7, 2): 5, (7, 3): 6, (8, 1): 4})

    def test_an_end_that_is_over(self):
        play = Play()
        play.world.now = 5
        self.assert_nothing_comes(play, Promise(7, 2, 5))
        self.assert_nothing_comes(play, Promise(7, 2, 4))
        play.bring(Promise(7, 2, 6))
        self.assertEqual(play.world.holdings, {(7, 2): 6})

    def test_it_reaches_the_host_though_both_servers_are_off(self):
        play = Play()
        play.do(STOP, 0)
        play.do(STOP, 1)
        play.bring(Promise(7, 2, 5))
        self.assertEqual(play.world.holdings, {(7, 2): 5})


class TellingMessage(PlayTest):
    OLD = {"stamp": (2, 5), "holds": 1, "host": 3, "mine": 11, "heard": 12, "asked": 13, "acked": 14, "shut": 1,
           "pshut": 1}

    def told_row(self, **fields):
        play = Play()
        play.set_row(1, 2, **self.OLD)
        return play, play.bring(Telling(1, 2, made_row(**fields)))

    def test_a_smaller_stamp_takes_all(self):
        for stamp in ((2, 6), (3, 0), (3, 9)):
            play, answered = self.told_row(stamp=stamp, host=7, asked=4, holds=1)
            self.assertEqual(answered, [0, 1, 6, 3, 0, 2, stamp[0], stamp[1], 4])
            self.assert_row(play, 1, 2, stamp=stamp, host=7, heard=4)

    def test_holds_is_turned_round(self):
        play, answered = self.told_row(stamp=(2, 6), host=7, asked=4, holds=0)
        self.assertEqual(answered, [0, 1, 6, 3, 0, 2, 2, 6, 4])
        self.assert_row(play, 1, 2, stamp=(2, 6), host=7, heard=4, holds=1)

    def test_no_host_brings_no_knowing(self):
        play, answered = self.told_row(stamp=(2, 6), holds=0)
        self.assertEqual(answered, [0, 0])
        self.assert_row(play, 1, 2, stamp=(2, 6), holds=1)

    def test_the_same_stamp_raises_heard_alone(self):
        for asked, heard in ((11, 12), (12, 12), (13, 13)):
            play, answered = self.told_row(stamp=(2, 5), host=7, asked=asked, holds=0)
            self.assertEqual(answered, [0, 1, 6, 3, 0, 2, 2, 5, heard])
            self.assert_row(play, 1, 2, **dict(self.OLD, heard=heard))

    def test_the_same_stamp_and_no_host(self):
        play, answered = self.told_row(stamp=(2, 5), asked=99, holds=0)
        self.assertEqual(answered, [0, 0])
        self.assert_row(play, 1, 2, **dict(self.OLD, heard=99))

    def test_a_greater_stamp_stays(self):
        for stamp in ((2, 4), (1, 9), (0, 0)):
            play, answered = self.told_row(stamp=stamp, host=7, asked=99, holds=0)
            self.assertEqual(answered, [0, 0])
            self.assert_row(play, 1, 2, **self.OLD)

    def test_host_0_is_a_host(self):
        answered = self.told_row(stamp=(2, 6), host=0, asked=4, holds=1)[1]
        self.assertEqual(answered[1], 1)

    def test_to_server_0_the_knowing_goes_to_1(self):
        play = Play()
        self.assertEqual(play.bring(Telling(0, 3, made_row(stamp=(0, 1), host=7, asked=4, holds=1))),
                         [0, 1, 6, 3, 1, 3, 0, 1, 4])

    def test_other_rows_stay(self):
        play, answered = self.told_row(stamp=(2, 6), host=7, asked=4, holds=1)
        for a in (0, 1, 3):
            self.assert_row(play, 1, a, holds=a % 2)

    def test_a_server_that_does_not_work(self):
        for spoil in UNFIT:
            play = Play()
            spoil(play, play.server(1))
            self.assert_nothing_comes(play, Telling(1, 0, made_row(stamp=(0, 1), host=7, asked=4, holds=1)))

    def test_shown(self):
        message = Telling(1, 2, made_row(stamp=(3, 4), asked=6, holds=1))
        self.assertEqual(message.shown(), [2, 1, 2, 3, 4, -1, 6, 1])


class KnowingMessage(PlayTest):
    OLD = {"stamp": (2, 5), "holds": 1, "host": 3, "mine": 11, "heard": 12, "asked": 13, "acked": 14, "shut": 1,
           "pshut": 1}

    def test_the_same_stamp_raises_acked(self):
        for end, acked in ((13, 14), (14, 14), (15, 15)):
            play = Play()
            play.set_row(0, 2, **self.OLD)
            self.assertEqual(play.bring(Knowing(0, 2, (2, 5), end)), [0, 0])
            self.assert_row(play, 0, 2, **dict(self.OLD, acked=acked))

    def test_another_stamp(self):
        for stamp in ((2, 4), (2, 6), (1, 5), (3, 5)):
            play = Play()
            play.set_row(0, 2, **self.OLD)
            self.assert_nothing_comes(play, Knowing(0, 2, stamp, 99))

    def test_a_server_that_does_not_work(self):
        for spoil in UNFIT:
            play = Play()
            spoil(play, play.server(0))
            self.assert_nothing_comes(play, Knowing(0, 2, (0, 0), 99))

    def test_quiet_until_now_works(self):
        play = Play()
        play.world.now = play.server(0).quiet = 4
        play.bring(Knowing(0, 2, (0, 0), 99))
        self.assert_row(play, 0, 2, holds=1, acked=99)

    def test_shown(self):
        self.assertEqual(Knowing(0, 2, (3, 4), 5).shown(), [3, 0, 2, 3, 4, 5])


class ShutQuestionMessage(PlayTest):
    OLD = {"stamp": (2, 5), "host": 3, "mine": 20, "heard": 12, "asked": 13, "acked": 14, "pshut": 1}

    def brought(self, now=20, **fields):
        play = Play()
        play.world.now = now
        play.set_row(1, 2, **self.OLD)
        return play, play.bring(ShutQuestion(1, 2, made_row(**fields)))

    def test_the_same_stamp_is_shut(self):
        for asked, heard in ((11, 12), (13, 13)):
            play, answered = self.brought(stamp=(2, 5), host=3, asked=asked)
            self.assertEqual(answered, [0, 1, 5, 5, 0, 2, 2, 5])
            self.assert_row(play, 1, 2, **dict(self.OLD, heard=heard, shut=1))

    def test_what_it_promised_must_be_over(self):
        play, answered = self.brought(now=19, stamp=(2, 5), host=3, asked=13)
        self.assertEqual(answered, [0, 0])
        self.assert_row(play, 1, 2, **dict(self.OLD, heard=13))

    def test_a_smaller_stamp_takes_it_and_is_shut(self):
        play, answered = self.brought(now=0, stamp=(2, 6), host=8, asked=9)
        self.assertEqual(answered, [0, 1, 5, 5, 0, 2, 2, 6])
        self.assert_row(play, 1, 2, stamp=(2, 6), host=8, heard=9, shut=1)

    def test_a_greater_stamp_stays(self):
        for stamp in ((2, 4), (1, 9)):
            play, answered = self.brought(stamp=stamp, host=8, asked=99)
            self.assertEqual(answered, [0, 0])
            self.assert_row(play, 1, 2, **self.OLD)

    def test_it_counts_as_told_with_holds_1(self):
        play = Play()
        play.bring(ShutQuestion(0, 2, made_row(stamp=(0, 1), host=8, asked=9, holds=0)))
        self.assert_row(play, 0, 2, stamp=(0, 1), host=8, heard=9, shut=1)

    def test_a_server_that_does_not_work(self):
        for spoil in UNFIT:
            play = Play()
            spoil(play, play.server(1))
            self.assert_nothing_comes(play, ShutQuestion(1, 0, made_row(stamp=(0, 1), host=7, asked=4)))

    def test_to_server_0_the_shut_goes_to_1(self):
        play = Play()
        answered = play.bring(ShutQuestion(0, 3, made_row(stamp=(0, 1), host=7, asked=4)))
        self.assertEqual(answered, [0, 1, 5, 5, 1, 3, 0, 1])

    def test_shown(self):
        self.assertEqual(ShutQuestion(1, 2, made_row(stamp=(3, 4), host=5, asked=6)).shown(), [4, 1, 2, 3, 4, 5, 6])


class ShutMessage(PlayTest):
    OLD = {"stamp": (2, 5), "holds": 1, "host": 3, "mine": 11, "heard": 12, "asked": 13, "acked": 14}

    def test_pshut_becomes_1(self):
        play = Play()
        play.set_row(0, 2, **self.OLD)
        self.assertEqual(play.bring(Shut(0, 2, (2, 5))), [0, 0])
        self.assert_row(play, 0, 2, pshut=1, **self.OLD)

    def test_another_stamp(self):
        for stamp in ((2, 4), (2, 6), (1, 5), (3, 5)):
            play = Play()
            play.set_row(0, 2, **self.OLD)
            self.assert_nothing_comes(play, Shut(0, 2, stamp))

    def test_without_the_right(self):
        play = Play()
        play.set_row(0, 2, **dict(self.OLD, holds=0))
        self.assert_nothing_comes(play, Shut(0, 2, (2, 5)))

    def test_a_server_that_does_not_work(self):
        for spoil in UNFIT:
            play = Play()
            play.set_row(0, 2, **self.OLD)
            spoil(play, play.server(0))
            self.assert_nothing_comes(play, Shut(0, 2, (2, 5)))

    def test_shown(self):
        self.assertEqual(Shut(1, 2, (3, 4)).shown(), [5, 1, 2, 3, 4])

    def test_the_address_is_free_afterwards(self):
        play = Play(1)
        play.set_row(0, 0, stamp=(0, 1), holds=1, host=3)
        self.assertEqual(play.asked(0, 4, 5), [0, 0])
        play.bring(Shut(0, 0, (0, 1)))
        self.assertEqual(play.asked(0, 4, 5)[1], 2)


class HelloMessage(PlayTest):
    FULL = {"stamp": (2, 5), "holds": 1, "host": 3, "mine": 11, "heard": 12, "asked": 13, "acked": 14, "shut": 1,
            "pshut": 1}

    def play_alone(self, epoch):
        play = Play()
        play.set_row(0, 1, **self.FULL)
        server = play.server(0)
        server.epoch, server.quiet, server.alone = epoch, 8, 0
        return play

    def test_not_blank(self):
        play = self.play_alone(4)
        rows = snapshot(play.server(0).rows)
        self.assertEqual(play.bring(Hello(0, 9, 0)), [0, 1, 5, 7, 1, 9, 4, 8])
        self.assertEqual(snapshot(play.server(0).rows), rows)
        self.assertEqual((play.server(0).epoch, play.server(0).quiet, play.server(0).alone), (4, 8, NONE))

    def test_blank_with_a_greater_number(self):
        play = self.play_alone(4)
        self.assertEqual(play.bring(Hello(0, 5, 1)), [0, 1, 5, 7, 1, 5, 5, 8])
        self.assert_row(play, 0, 1, **dict(self.FULL, stamp=(5, 0), acked=0, pshut=0))
        self.assert_row(play, 0, 0, stamp=(5, 0), holds=1)
        self.assert_row(play, 0, 3, stamp=(5, 0))
        self.assertEqual((play.server(0).epoch, play.server(0).alone), (5, NONE))
        # The table bears the rows as they are behind the new stamps.
        self.assertEqual(snapshot(play.world.bag[-1].rows), snapshot(play.server(0).rows))

    def test_blank_with_no_greater_number(self):
        for number in (3, 4):
            play = self.play_alone(4)
            self.assertEqual(play.bring(Hello(0, number, 1)), [0, 1, 5, 7, 1, number, 4, 8])
            self.assert_row(play, 0, 1, **self.FULL)
            self.assertEqual((play.server(0).epoch, play.server(0).alone), (4, NONE))

    def test_a_server_that_is_off_or_blank(self):
        for field, value in (("on", 0), ("blank", 1)):
            play = self.play_alone(0)
            setattr(play.server(0), field, value)
            self.assert_nothing_comes(play, Hello(0, 5, 1))

    def test_a_server_that_waits_or_is_quiet_answers(self):
        for field in ("waits", "quiet"):
            play = Play()
            setattr(play.server(1), field, 1)
            self.assertEqual(play.bring(Hello(1, 5, 0)), [0, 1, 5, 7, 0, 5, 0, play.server(1).quiet])

    def test_the_table_bears_the_rows_as_they_were(self):
        play = Play()
        play.do(STOP, 1)
        play.do(START, 1)
        play.bring(Hello(0, 1, 0))
        play.asked(0, 7, 5)
        place = play.bag.index([7, 1, 1, 0, 0])
        play.do(DELIVER, place)
        self.assert_row(play, 1, 0)

    def test_shown(self):
        self.assertEqual(Hello(1, 2, 1).shown(), [6, 1, 2, 1])


class TableMessage(PlayTest):
    MINE = {"stamp": (2, 5), "holds": 1, "host": 3, "mine": 11, "heard": 12, "asked": 13, "acked": 14, "shut": 1,
            "pshut": 1}

    def waiting_play(self, number=6):
        play = Play()
        server = play.server(1)
        server.waits, server.number = 1, number
        play.set_row(1, 2, **self.MINE)
        return play

    def brought(self, play, number=6, **fields):
        """Bring server 1 a table of server 0, whose row of address 2 has these fields."""
        play.set_row(0, 2, **fields)
        return play.bring(Table(1, number, play.server(0)))

    def test_a_smaller_stamp_takes_theirs(self):
        for stamp in ((2, 6), (3, 0)):
            play = self.waiting_play()
            answered = self.brought(play, stamp=stamp, host=8, holds=1, mine=40, heard=30, asked=20, acked=99, shut=1)
            self.assertEqual(answered, [0, 0])
            self.assert_row(play, 1, 2, stamp=stamp, host=8, mine=30, heard=40, pshut=1)

    def test_the_later_ends_are_taken(self):
        play = self.waiting_play()
        self.brought(play, stamp=(2, 6), host=8, mine=20, heard=10, asked=40, pshut=1)
        self.assert_row(play, 1, 2, stamp=(2, 6), host=8, holds=1, mine=11, heard=40)

    def test_no_host_is_taken_too(self):
        play = self.waiting_play()
        self.brought(play, stamp=(2, 6), holds=1)
        self.assert_row(play, 1, 2, stamp=(2, 6), mine=11)

    def test_the_same_stamp_raises_heard_alone(self):
        for mine, asked, heard in ((1, 2, 12), (13, 2, 13), (13, 14, 14), (14, 13, 14)):
            play = self.waiting_play()
            self.brought(play, stamp=(2, 5), host=8, holds=1, mine=mine, heard=99, asked=asked, shut=1)
            self.assert_row(play, 1, 2, **dict(self.MINE, heard=heard))

    def test_a_greater_stamp_stays(self):
        for stamp in ((2, 4), (1, 9)):
            play = self.waiting_play()
            self.brought(play, stamp=stamp, host=8, mine=40, heard=30, asked=99, shut=1)
            self.assert_row(play, 1, 2, **self.MINE)
            self.assertEqual(play.server(1).waits, 0)

    def test_every_row_is_held_beside_its_own(self):
        play = Play(3)
        play.server(1).waits = 1
        for a in range(3):
            play.set_row(0, a, stamp=(1, a), host=50 + a, holds=a % 2)
        play.bring(Table(1, 0, play.server(0)))
        for a in range(3):
            self.assert_row(play, 1, a, stamp=(1, a), host=50 + a, holds=1 - a % 2)

    def test_epoch(self):
        for own, theirs in ((3, 4), (4, 3), (4, 4)):
            play = self.waiting_play()
            play.server(1).epoch, play.server(0).epoch = own, theirs
            self.brought(play)
            self.assertEqual(play.server(1).epoch, 4)
            self.assertEqual(play.server(0).epoch, theirs)

    def test_quiet(self):
        # (own, theirs, blank, becomes): now is 7, the lead is 10.
        for own, theirs, blank, becomes in ((3, 4, 0, 4), (4, 3, 0, 4), (0, 0, 0, 0), (0, 0, 1, 17), (18, 0, 1, 18),
                                            (0, 18, 1, 18), (16, 16, 1, 17)):
            play = self.waiting_play()
            play.world.now = 7
            play.server(1).quiet, play.server(0).quiet, play.server(1).blank = own, theirs, blank
            self.brought(play)
            server = play.server(1)
            self.assertEqual((server.quiet, server.waits, server.blank, server.on), (becomes, 0, 0, 1))

    def test_the_number_stays(self):
        play = self.waiting_play()
        self.brought(play)
        self.assertEqual(play.server(1).number, 6)

    def test_another_number(self):
        for number in (5, 7):
            play = self.waiting_play()
            play.set_row(0, 2, stamp=(9, 9), host=8)
            self.assert_nothing_comes(play, Table(1, number, play.server(0)))

    def test_a_server_that_is_off_or_does_not_wait(self):
        for field in ("on", "waits"):
            play = self.waiting_play()
            play.set_row(0, 2, stamp=(9, 9), host=8)
            setattr(play.server(1), field, 0)
            self.assert_nothing_comes(play, Table(1, 6, play.server(0)))

    def test_a_second_table_does_nothing(self):
        play = self.waiting_play()
        self.brought(play)
        play.set_row(0, 2, stamp=(9, 9), host=8)
        self.assert_nothing_comes(play, Table(1, 6, play.server(0)))

    def test_shown_without_its_rows(self):
        play = Play()
        play.server(0).epoch, play.server(0).quiet = 4, 5
        self.assertEqual(Table(1, 3, play.server(0)).shown(), [7, 1, 3, 4, 5])


class WholeStories(unittest.TestCase):
    """Several calls on one world, seen through what they answer alone."""

    def test_a_wiped_server_comes_back(self):
        line = [
            (BEGIN, 2, 10, 9), (ASK, 1, 7, 5, -1), (DELIVER, 0), (DELIVER, 1), (STOP, 1), (WIPE, 1), (START, 1),
            (HELLO, 1), (DELIVER, 2), (DELIVER, 2), (ASK, 1, 7, 5, -1), (DELIVER, 2), (TICK, 10), (ASK, 1, 7, 5, -1),
            (DELIVER, 2),
        ]
        self.assertEqual(told(*line)[2:], [
            [0, 2, 4, 1, 7, 1, 5, 8, 2, 0, 1, 0, 1, 7, 10, 1],
            [0, 1, 6, 3, 1, 1, 0, 1, 10],
            [0], [0], [0, 1], [0],
            [0, 1, 5, 7, 1, 1, 1, 0],
            [0, 0],
            [0],
            [0, 0],
            [0, 10],
            [0],
            [0, 2, 4, 1, 7, 1, 15, 8, 2, 0, 1, 1, 0, 7, 20, 1],
        ])

    def test_a_table_to_an_earlier_start_is_of_no_use(self):
        line = [
            (BEGIN, 2, 10, 9), (STOP, 1), (START, 1), (HELLO, 1), (DELIVER, 0), (STOP, 1), (START, 1), (DELIVER, 0),
            (HELLO, 1), (ASK, 1, 7, 5, -1), (DELIVER, 1), (DELIVER, 0), (DELIVER, 0), (HELLO, 1), (ASK, 1, 7, 5, -1),
            (DELIVER, 0),
        ]
        self.assertEqual(told(*line)[2:], [
            [0, 1], [0], [0, 1, 5, 7, 1, 1, 0, 0], [0], [0, 2], [0, 0],
            [0], [0], [0, 0], [0, 1, 5, 7, 1, 2, 0, 0], [0, 0], [-5], [0],
            [0, 2, 4, 1, 7, 1, 5, 8, 2, 0, 1, 0, 1, 7, 10, 1],
        ])

    def test_going_on_alone(self):
        line = [
            (BEGIN, 2, 10, 9), (STOP, 1), (DECLARE, 0), (ASK, 0, 7, 5, 1), (DELIVER, 0), (TICK, 9),
            (ASK, 0, 8, 5, 1), (DELIVER, 2), (TICK, 1), (ASK, 0, 8, 5, 1), (DELIVER, 2),
        ]
        self.assertEqual(told(*line)[2:], [
            [0, 1], [0],
            [0, 2, 4, 1, 7, 0, 5, 8, 2, 1, 0, 1, 1, 7, 10, 1],
            [0, 9], [0], [0, 0], [0, 10], [0],
            [0, 2, 4, 1, 8, 1, 15, 8, 2, 1, 1, 1, 1, 8, 20, 1],
        ])

    def test_declared_while_it_waits(self):
        line = [
            (BEGIN, 2, 10, 9), (STOP, 0), (STOP, 1), (START, 0), (DECLARE, 0), (ASK, 0, 7, 5, 1), (DELIVER, 0),
            (TICK, 10), (ASK, 0, 7, 5, 1), (DELIVER, 0), (START, 1), (HELLO, 1), (DELIVER, 2), (DELIVER, 2),
        ]
        self.assertEqual(told(*line)[3:], [
            [0, 1], [0, 2], [0], [0, 0], [0, 10], [0],
            [0, 2, 4, 1, 7, 1, 15, 8, 2, 1, 1, 2, 1, 7, 20, 1],
            [0, 3], [0],
            [0, 1, 5, 7, 1, 3, 2, 10],
            [0, 0],
        ])

    def test_a_hello_ends_being_alone(self):
        line = [
            (BEGIN, 2, 10, 9), (STOP, 1), (DECLARE, 0), (TICK, 10), (START, 1), (HELLO, 1), (DELIVER, 0),
            (ASK, 0, 7, 5, 1), (DELIVER, 1),
        ]
        self.assertEqual(last(*line), [0, 2, 4, 1, 7, 0, 15, 8, 2, 1, 0, 1, 1, 7, 20, 1])


if __name__ == "__main__":
    unittest.main()
