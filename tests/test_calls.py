"""Points 0 to 10: what each call refuses by itself, in which order, and what it does."""

import unittest

from support import (
    ASK, BEGIN, DECLARE, DELIVER, DOUBLE, HELLO, LOSE, NONE, START, STOP, TICK, WIPE,
    Play, PlayTest, last, snapshot, told,
)
from lendpartners.messages import Hello, Promise

LAST_TIME = 100000000000000


class Begin(PlayTest):
    def test_world(self):
        play = Play(5, 7, 9)
        world = play.world
        self.assertEqual((world.now, world.book, world.bag, world.holdings), (0, 0, [], {}))
        self.assertEqual((world.size, world.lead, world.cap), (5, 7, 9))

    def test_servers(self):
        play = Play()
        for s in (0, 1):
            fields = dict(vars(play.server(s)))
            rows = fields.pop("rows")
            self.assertEqual(fields, {"on": 1, "waits": 0, "number": 0, "alone": NONE, "blank": 0, "epoch": 0,
                                      "quiet": 0})
            self.assertEqual(len(rows), 4)

    def test_rows(self):
        for n in (1, 2, 5, 4096):
            play = Play(n)
            for a in range(n):
                self.assert_row(play, 0, a, holds=1 if a % 2 == 0 else 0)
                self.assert_row(play, 1, a, holds=1 if a % 2 == 1 else 0)

    def test_even_addresses_are_lent_by_0_and_odd_ones_by_1(self):
        for s, a in ((0, 0), (1, 1)):
            answered = last((BEGIN, 2, 10, 9), (ASK, s, 77, 5, -1), (DELIVER, 0))
            self.assertEqual(answered, [0, 2, 4, 1, 77, a, 5, 8, 2, 1 - s, a, 0, 1, 77, 10, 1])

    def test_one_address_leaves_nothing_to_server_1(self):
        self.assertEqual(last((BEGIN, 1, 10, 9), (ASK, 1, 77, 5, -1), (DELIVER, 0)), [0, 0])

    def test_again_the_world_before_is_gone(self):
        play = Play(4, 10, 3)
        play.do(ASK, 0, 1, 5, -1)
        play.do(DELIVER, 0)
        play.do(DELIVER, 0)
        play.do(TICK, 3)
        play.do(STOP, 1)
        play.do(DECLARE, 0)
        self.assertEqual(play.do(BEGIN, 2, 1, 1), [0])
        self.assertEqual(snapshot(play.line), snapshot(Play(2, 1, 1).line))

    def test_again_in_a_line(self):
        self.assertEqual(told((BEGIN, 1, 1, 1), (TICK, 5), (ASK, 0, 1, 1, 0), (STOP, 0), (START, 0), (BEGIN, 1, 1, 1),
                              (TICK, 0), (LOSE, 0), (STOP, 0), (START, 0)),
                         [[0], [0, 5], [0], [0], [0, 1], [0], [0, 0], [-1], [0], [0, 1]])


class Tick(PlayTest):
    def test_time_goes_on(self):
        self.assertEqual(told((BEGIN, 1, 1, 1), (TICK, 0), (TICK, 3), (TICK, 4))[1:], [[0, 0], [0, 3], [0, 7]])

    def test_last_time(self):
        play = Play()
        play.world.now = LAST_TIME - 5
        self.assert_refused(-2, play, TICK, 6)
        self.assertEqual(play.do(TICK, 5), [0, LAST_TIME])
        self.assert_refused(-2, play, TICK, 1)
        self.assertEqual(play.do(TICK, 0), [0, LAST_TIME])

    def test_last_time_by_ticks_alone(self):
        line = [(BEGIN, 1, 1, 1)] + [(TICK, 10 ** 12)] * 101 + [(TICK, 0), (TICK, 1)]
        answered = told(*line)
        self.assertEqual(answered[100:], [[0, LAST_TIME], [-2], [0, LAST_TIME], [-2]])

    def test_range_is_looked_at_ahead_of_the_last_time(self):
        play = Play()
        play.world.now = LAST_TIME
        self.assert_refused(-1, play, TICK, 10 ** 12 + 1)

    def test_holdings_that_ended_are_gone(self):
        play = Play()
        play.world.holdings = {(1, 0): 4, (2, 1): 5, (3, 2): 6}
        play.do(TICK, 5)
        self.assertEqual(play.world.holdings, {(3, 2): 6})
        play.do(TICK, 0)
        self.assertEqual(play.world.holdings, {(3, 2): 6})
        play.do(TICK, 1)
        self.assertEqual(play.world.holdings, {})

    def test_nothing_else_is_changed(self):
        play = Play()
        play.asked(0, 5, 3)
        before = snapshot([play.world.servers, play.world.bag, play.world.book])
        play.do(TICK, 1000)
        self.assertEqual(snapshot([play.world.servers, play.world.bag, play.world.book]), before)


class Ask(PlayTest):
    def test_an_asking_is_put(self):
        play = Play()
        self.assertEqual(play.do(ASK, 1, 9, 8, 3), [0])
        self.assertEqual(play.do(ASK, 0, 7, 6, -1), [0])
        self.assertEqual(play.bag, [[0, 1, 9, 8, 3], [0, 0, 7, 6, -1]])

    def test_full_bag(self):
        play = Play(4, 10, 2)
        self.assertEqual(play.do(ASK, 0, 1, 1, -1), [0])
        self.assertEqual(play.do(ASK, 0, 1, 1, -1), [0])
        self.assert_refused(-3, play, ASK, 0, 1, 1, -1)
        self.assert_refused(-1, play, ASK, 0, 1, 0, -1)

    def test_a_server_that_is_off_may_be_asked(self):
        self.assertEqual(last((BEGIN, 2, 1, 1), (STOP, 0), (ASK, 0, 1, 1, 0)), [0])


class Deliver(PlayTest):
    def test_the_message_leaves_and_those_behind_move_up(self):
        play = Play()
        for host in (1, 2, 3):
            play.do(ASK, 0, host, 5, -1)
        answered = play.do(DELIVER, 1)
        self.assertEqual(answered, [0, 2, 4, 1, 2, 0, 5, 8, 2, 1, 0, 0, 1, 2, 10, 1])
        self.assertEqual(play.bag, [[0, 0, 1, 5, -1], [0, 0, 3, 5, -1], [1, 2, 0, 5], [2, 1, 0, 0, 1, 2, 10, 1]])

    def test_nothing_put(self):
        self.assertEqual(last((BEGIN, 2, 9, 9), (STOP, 0), (ASK, 0, 1, 1, -1), (DELIVER, 0)), [0, 0])

    def test_room_is_made_by_the_delivered_message_itself(self):
        self.assertEqual(last((BEGIN, 2, 9, 1), (ASK, 0, 1, 1, -1), (DELIVER, 0)), [0, 1, 4, 1, 1, 0, 1])

    def test_what_the_bag_cannot_hold_is_lost(self):
        play = Play(4, 10, 3)
        for host in (1, 2, 3):
            play.do(ASK, 0, host, 5, -1)
        self.assertEqual(play.do(DELIVER, 0), [0, 1, 4, 1, 1, 0, 5])
        self.assertEqual(play.bag, [[0, 0, 2, 5, -1], [0, 0, 3, 5, -1], [1, 1, 0, 5]])
        # The row was bound all the same.
        self.assert_row(play, 0, 0, stamp=(0, 1), holds=1, host=1, mine=5, asked=10)

    def test_nothing_is_lost_while_there_is_room_for_both(self):
        play = Play(4, 10, 3)
        play.do(ASK, 0, 1, 5, -1)
        play.do(ASK, 0, 2, 5, -1)
        self.assertEqual(play.do(DELIVER, 0)[1], 2)
        self.assertEqual(len(play.bag), 3)


class Lose(PlayTest):
    def test_the_message_leaves_unhandled(self):
        play = Play()
        for host in (1, 2, 3):
            play.do(ASK, 0, host, 5, -1)
        before = snapshot(play.world.servers)
        self.assertEqual(play.do(LOSE, 1), [0])
        self.assertEqual(play.bag, [[0, 0, 1, 5, -1], [0, 0, 3, 5, -1]])
        self.assertEqual(snapshot(play.world.servers), before)

    def test_a_lost_promise_is_no_holding(self):
        play = Play()
        play.bring(Promise(1, 0, 5))
        play.world.bag.append(Promise(2, 1, 5))
        play.do(LOSE, 0)
        self.assertEqual(play.world.holdings, {(1, 0): 5})


class Double(PlayTest):
    def test_a_copy_is_put_at_the_end(self):
        play = Play()
        play.do(ASK, 0, 1, 5, -1)
        play.do(ASK, 1, 2, 6, 3)
        self.assertEqual(play.do(DOUBLE, 0), [0])
        self.assertEqual(play.bag, [[0, 0, 1, 5, -1], [0, 1, 2, 6, 3], [0, 0, 1, 5, -1]])

    def test_full_bag(self):
        play = Play(4, 10, 2)
        play.do(ASK, 0, 1, 5, -1)
        self.assertEqual(play.do(DOUBLE, 0), [0])
        self.assert_refused(-3, play, DOUBLE, 0)
        self.assert_refused(-1, play, DOUBLE, 2)

    def test_both_are_handled(self):
        line = [(BEGIN, 4, 10, 9), (ASK, 0, 1, 5, -1), (DOUBLE, 0), (DELIVER, 0), (DELIVER, 0)]
        answered = told(*line)
        self.assertEqual(answered[3], answered[4])

    def test_a_doubled_table_bears_the_same_rows(self):
        play = Play(2)
        play.asked(0, 8, 5)
        play.do(STOP, 1)
        play.do(START, 1)
        play.bring(Hello(0, 1, 0))
        play.do(DOUBLE, len(play.bag) - 1)
        play.do(TICK, 100)
        play.asked(0, 9, 5)
        place = play.bag.index([7, 1, 1, 0, 0])
        play.do(LOSE, place)
        play.do(DELIVER, play.bag.index([7, 1, 1, 0, 0]))
        self.assert_row(play, 1, 0, stamp=(0, 1), host=8, heard=10)


class Stop(PlayTest):
    def test_stop(self):
        for s in (0, 1):
            play = Play()
            server = play.server(s)
            server.waits, server.number, server.alone = 1, 3, 4
            server.blank, server.epoch, server.quiet = 1, 5, 6
            before = snapshot([server.rows, play.server(1 - s), play.world.book])
            self.assertEqual(play.do(STOP, s), [0])
            self.assertEqual((server.on, server.waits, server.number, server.alone), (0, 0, 0, NONE))
            self.assertEqual((server.blank, server.epoch, server.quiet), (1, 5, 6))
            self.assertEqual(snapshot([server.rows, play.server(1 - s), play.world.book]), before)

    def test_off_already(self):
        play = Play()
        play.do(STOP, 1)
        self.assert_refused(-4, play, STOP, 1)
        self.assertEqual(play.do(STOP, 0), [0])

    def test_messages_stay_under_way(self):
        play = Play()
        play.do(ASK, 0, 1, 5, -1)
        play.do(STOP, 0)
        self.assertEqual(len(play.bag), 1)


class Start(PlayTest):
    def test_start(self):
        play = Play()
        play.do(STOP, 1)
        before = snapshot([play.server(0), play.server(1).rows])
        self.assertEqual(play.do(START, 1), [0, 1])
        server = play.server(1)
        self.assertEqual((server.on, server.waits, server.number, server.alone), (1, 1, 1, NONE))
        self.assertEqual(play.world.book, 1)
        self.assertEqual(snapshot([play.server(0), play.server(1).rows]), before)

    def test_disk_stays(self):
        play = Play()
        play.do(STOP, 1)
        server = play.server(1)
        server.blank, server.epoch, server.quiet = 1, 5, 6
        play.do(START, 1)
        self.assertEqual((server.blank, server.epoch, server.quiet), (1, 5, 6))

    def test_on_already(self):
        play = Play()
        self.assert_refused(-4, play, START, 0)
        play.do(STOP, 0)
        play.do(START, 0)
        self.assert_refused(-4, play, START, 0)

    def test_the_book_only_rises(self):
        self.assertEqual(told((BEGIN, 1, 1, 1), (STOP, 0), (STOP, 1), (START, 1), (START, 1), (START, 0), (STOP, 1),
                              (START, 1))[3:],
                         [[0, 1], [-4], [0, 2], [0], [0, 3]])


class Wipe(PlayTest):
    def test_wipe(self):
        for s in (0, 1):
            play = Play()
            play.asked(s, 5, 5)
            play.do(STOP, s)
            server = play.server(s)
            server.epoch, server.quiet = 7, 8
            before = snapshot([play.server(1 - s), play.bag, play.world.book])
            self.assertEqual(play.do(WIPE, s), [0])
            self.assertEqual((server.blank, server.epoch, server.quiet), (1, 0, 0))
            self.assertEqual((server.on, server.waits, server.number, server.alone), (0, 0, 0, NONE))
            self.assertEqual(len(server.rows), 4)
            for a in range(4):
                self.assert_row(play, s, a)
            self.assertEqual(snapshot([play.server(1 - s), play.bag, play.world.book]), before)

    def test_refusals(self):
        play = Play()
        self.assert_refused(-4, play, WIPE, 0)
        play.do(STOP, 1)
        # Both refusals could be given: the server's own is looked at first.
        self.assert_refused(-4, play, WIPE, 0)
        play.do(STOP, 0)
        self.assert_refused(-5, play, WIPE, 0)
        play.do(START, 1)
        self.assert_refused(-5, play, WIPE, 0)
        play.do(DECLARE, 1)
        self.assertEqual(play.do(WIPE, 0), [0])

    def test_a_quiet_partner_is_enough(self):
        play = Play()
        play.do(STOP, 0)
        play.server(1).quiet = 99
        self.assertEqual(play.do(WIPE, 0), [0])

    def test_again(self):
        self.assertEqual(told((BEGIN, 1, 1, 1), (STOP, 0), (WIPE, 0), (WIPE, 0))[2:], [[0], [0]])


class Declare(PlayTest):
    def test_of_a_server_that_does_not_wait(self):
        play = Play()
        play.asked(0, 5, 5)
        play.do(TICK, 3)
        play.do(STOP, 1)
        server = play.server(0)
        server.quiet = 2
        before = snapshot([server.rows, play.server(1), play.bag])
        self.assertEqual(play.do(DECLARE, 0), [0, 1])
        self.assertEqual((server.on, server.waits, server.epoch, server.alone, server.quiet), (1, 0, 1, 3, 2))
        self.assertEqual(play.world.book, 1)
        self.assertEqual(snapshot([server.rows, play.server(1), play.bag]), before)

    def test_again_it_is_alone_from_then_on(self):
        play = Play()
        play.do(STOP, 1)
        play.do(DECLARE, 0)
        play.do(TICK, 4)
        self.assertEqual(play.do(DECLARE, 0), [0, 2])
        self.assertEqual((play.server(0).alone, play.server(0).epoch), (4, 2))

    def test_of_a_server_that_waits(self):
        play = Play()
        play.do(STOP, 0)
        play.do(STOP, 1)
        play.do(START, 0)
        play.do(TICK, 3)
        play.set_row(0, 0, stamp=(0, 7), holds=0, host=5, mine=1, heard=2, asked=3, acked=4, shut=1, pshut=1)
        self.assertEqual(play.do(DECLARE, 0), [0, 2])
        server = play.server(0)
        self.assertEqual((server.on, server.waits, server.epoch, server.alone, server.quiet, server.number),
                         (1, 0, 2, 3, 13, 1))
        self.assert_row(play, 0, 0, stamp=(2, 0), holds=1, host=5, mine=1, heard=2, asked=3)
        for a in (1, 2, 3):
            self.assert_row(play, 0, a, stamp=(2, 0), holds=1)
        self.assert_row(play, 1, 1, holds=1)

    def test_a_later_quiet_stays(self):
        for quiet, becomes in ((12, 13), (13, 13), (14, 14)):
            play = Play()
            play.do(STOP, 0)
            play.do(STOP, 1)
            play.do(START, 0)
            play.do(TICK, 3)
            play.server(0).quiet = quiet
            play.do(DECLARE, 0)
            self.assertEqual(play.server(0).quiet, becomes)

    def test_refusals(self):
        play = Play()
        self.assert_refused(-5, play, DECLARE, 0)
        play.do(STOP, 0)
        self.assert_refused(-4, play, DECLARE, 0)
        play.do(WIPE, 0)
        play.do(START, 0)
        self.assert_refused(-5, play, DECLARE, 0)
        play.do(STOP, 1)
        self.assert_refused(-6, play, DECLARE, 0)
        play.do(STOP, 0)
        self.assert_refused(-4, play, DECLARE, 0)

    def test_a_waiting_partner_is_on(self):
        self.assertEqual(last((BEGIN, 1, 1, 1), (STOP, 1), (START, 1), (DECLARE, 0)), [-5])

    def test_numbers_of_starts_and_epochs_are_of_one_book(self):
        self.assertEqual(told((BEGIN, 1, 1, 1), (STOP, 1), (DECLARE, 0), (START, 1), (STOP, 1), (DECLARE, 0))[2:],
                         [[0, 1], [0, 2], [0], [0, 3]])


class SayHello(PlayTest):
    def test_a_hello_is_put_to_the_partner(self):
        for s in (0, 1):
            play = Play()
            play.do(STOP, s)
            play.do(START, s)
            self.assertEqual(play.do(HELLO, s), [0])
            self.assertEqual(play.bag, [[6, 1 - s, 1, 0]])

    def test_of_a_blank_server(self):
        play = Play()
        play.do(STOP, 1)
        play.do(WIPE, 1)
        play.do(START, 1)
        play.do(STOP, 1)
        play.do(START, 1)
        play.do(HELLO, 1)
        self.assertEqual(play.bag, [[6, 0, 2, 1]])

    def test_refusals_in_their_order(self):
        play = Play(4, 10, 1)
        self.assert_refused(-5, play, HELLO, 0)
        play.do(ASK, 0, 1, 1, -1)
        self.assert_refused(-5, play, HELLO, 0)
        play.do(STOP, 0)
        self.assert_refused(-4, play, HELLO, 0)
        play.do(START, 0)
        self.assert_refused(-3, play, HELLO, 0)
        play.do(LOSE, 0)
        self.assertEqual(play.do(HELLO, 0), [0])
        self.assert_refused(-3, play, HELLO, 0)

    def test_the_partner_may_be_off(self):
        self.assertEqual(last((BEGIN, 1, 1, 1), (STOP, 0), (STOP, 1), (START, 0), (HELLO, 0)), [0])


if __name__ == "__main__":
    unittest.main()
