"""Points 14 to 19 and 21: row, server, peek, who, held, count and state, which change nothing."""

import unittest

from support import (
    ASK, BEGIN, COUNT, DECLARE, DELIVER, HELD, HELLO, HUGE, LAST_HOST, PEEK, ROW, SERVER, START, STATE, STOP, TICK,
    UNFIT, WHO, WIPE,
    Play, PlayTest, made_row, told,
)
from lendpartners.messages import Asking, Hello, Knowing, Promise, Shut, ShutQuestion, Table, Telling

FULL = {"stamp": (2, 5), "holds": 1, "host": 3, "mine": 11, "heard": 12, "asked": 13, "acked": 14, "shut": 1,
        "pshut": 1}


def busy_play():
    """A world in which each value differs from those of a new one."""
    play = Play(6, 10, 20)
    play.world.now, play.world.book = 20, 4
    play.world.holdings = {(9, 3): 40, (2, 3): 41, (5, 3): 42, (2, 1): 43, (2, 0): 44}
    for a in range(6):
        play.set_row(1, a, **dict(FULL, host=a))
    server = play.server(1)
    server.number, server.alone, server.epoch, server.quiet = 3, 5, 6, 7
    play.do(ASK, 0, 1, 5, -1)
    play.do(ASK, 1, 2, 5, 3)
    return play


class NothingIsChanged(PlayTest):
    def test_by_any_of_them(self):
        for call in ((ROW, 0, 0), (ROW, 1, 5), (SERVER, 0), (SERVER, 1), (PEEK, 0), (PEEK, 1), (WHO, 3), (WHO, 5),
                     (HELD, 2), (HELD, 77), (COUNT, 0), (COUNT, 1), (STATE,)):
            with self.subTest(call=call):
                play = busy_play()
                first = self.assert_nothing_else_changes(play, call)
                self.assertEqual(first[0], 0)
                self.assertEqual(play.do(*call), first)

    def test_by_a_refusal(self):
        for call in ((ROW, 0, 6), (ROW, 2, 0), (SERVER, 2), (SERVER, -1), (PEEK, 2), (PEEK, -1), (WHO, 6), (WHO, -1),
                     (HELD, -1), (HELD, LAST_HOST + 1), (COUNT, 2), (COUNT, -1)):
            self.assert_refused(-1, busy_play(), *call)

    def test_by_changing_what_is_answered(self):
        play = busy_play()
        for call in ((ROW, 1, 5), (SERVER, 1), (PEEK, 1), (WHO, 3), (HELD, 2), (COUNT, 1), (STATE,)):
            first = list(play.do(*call))
            play.do(*call).clear()
            self.assertEqual(play.do(*call), first)


class AskARow(PlayTest):
    def test_all_its_numbers_in_their_order(self):
        play = Play()
        play.set_row(0, 2, **dict(FULL, pshut=0))
        self.assertEqual(play.do(ROW, 0, 2), [0, 2, 5, 1, 3, 11, 12, 13, 14, 1, 0])
        play.set_row(0, 2, **dict(FULL, shut=0))
        self.assertEqual(play.do(ROW, 0, 2), [0, 2, 5, 1, 3, 11, 12, 13, 14, 0, 1])
        play.set_row(0, 2, **dict(FULL, holds=0, host=0))
        self.assertEqual(play.do(ROW, 0, 2), [0, 2, 5, 0, 0, 11, 12, 13, 14, 1, 1])

    def test_no_host(self):
        play = Play()
        play.set_row(0, 2, **dict(FULL, host=-1))
        self.assertEqual(play.do(ROW, 0, 2), [0, 2, 5, 1, -1, 11, 12, 13, 14, 1, 1])

    def test_of_this_server_and_this_address(self):
        play = Play()
        for s in (0, 1):
            for a in range(4):
                play.set_row(s, a, stamp=(s, a), host=10 * s + a)
        for s in (0, 1):
            for a in range(4):
                self.assertEqual(play.do(ROW, s, a), [0, s, a, 0, 10 * s + a, 0, 0, 0, 0, 0, 0])

    def test_of_a_new_world(self):
        for s in (0, 1):
            self.assertEqual(told((BEGIN, 2, 1, 1), (ROW, s, s), (ROW, s, 1 - s))[1:],
                             [[0, 0, 0, 1, -1, 0, 0, 0, 0, 0, 0], [0, 0, 0, 0, -1, 0, 0, 0, 0, 0, 0]])

    def test_of_a_server_that_does_not_work(self):
        for spoil in UNFIT:
            play = Play()
            play.set_row(0, 2, **FULL)
            spoil(play, play.server(0))
            self.assertEqual(play.do(ROW, 0, 2), [0, 2, 5, 1, 3, 11, 12, 13, 14, 1, 1])

    def test_through_calls_alone(self):
        line = [
            (BEGIN, 2, 10, 9), (ASK, 0, 7, 30, -1), (DELIVER, 0), (ROW, 0, 0), (DELIVER, 1), (DELIVER, 1),
            (ROW, 0, 0), (ROW, 1, 0),
        ]
        answered = told(*line)
        self.assertEqual(answered[3], [0, 0, 1, 1, 7, 10, 0, 60, 0, 0, 0])
        self.assertEqual(answered[6:], [[0, 0, 1, 1, 7, 10, 0, 60, 60, 0, 0], [0, 0, 1, 0, 7, 0, 60, 0, 0, 0, 0]])


class AskAServer(PlayTest):
    def test_all_its_numbers_in_their_order(self):
        for s in (0, 1):
            play = Play()
            play.world.now = 20
            server = play.server(s)
            server.epoch, server.quiet, server.number, server.alone = 3, 4, 5, 6
            self.assertEqual(play.do(SERVER, s), [0, 1, 0, 1, 0, 3, 4, 5, 6])
            self.assertEqual(play.do(SERVER, 1 - s), [0, 1, 0, 1, 0, 0, 0, 0, -1])
            server.blank = 1
            self.assertEqual(play.do(SERVER, s), [0, 1, 0, 1, 1, 3, 4, 5, 6])
            server.waits = 1
            self.assertEqual(play.do(SERVER, s), [0, 1, 1, 0, 1, 3, 4, 5, 6])
            server.on, server.waits, server.blank = 0, 0, 0
            self.assertEqual(play.do(SERVER, s), [0, 0, 0, 0, 0, 3, 4, 5, 6])

    def test_it_works_where_its_quiet_is_now_or_earlier(self):
        for quiet, works in ((19, 1), (20, 1), (21, 0)):
            play = Play()
            play.world.now = 20
            play.server(1).quiet = quiet
            answered = play.do(SERVER, 1)
            self.assertEqual(answered, [0, 1, 0, works, 0, 0, quiet, 0, -1])
            self.assertIs(answered[3].__class__, int)

    def test_alone_since_the_beginning_of_time(self):
        self.assertEqual(told((BEGIN, 1, 1, 1), (STOP, 1), (SERVER, 1), (DECLARE, 0), (SERVER, 0))[2:],
                         [[0, 0, 0, 0, 0, 0, 0, 0, -1], [0, 1], [0, 1, 0, 1, 0, 1, 0, 0, 0]])

    def test_through_calls_alone(self):
        line = [(BEGIN, 1, 10, 9), (TICK, 3), (STOP, 1), (WIPE, 1), (SERVER, 1), (START, 1), (SERVER, 1), (HELLO, 1),
                (DELIVER, 0), (SERVER, 0), (DELIVER, 0), (SERVER, 1), (TICK, 9), (SERVER, 1), (TICK, 1), (SERVER, 1),
                (STOP, 1), (SERVER, 1)]
        answered = told(*line)
        self.assertEqual([answers for call, answers in zip(line, answered) if call[0] == SERVER], [
            [0, 0, 0, 0, 1, 0, 0, 0, -1],
            [0, 1, 1, 0, 1, 0, 0, 1, -1],
            [0, 1, 0, 1, 0, 1, 0, 0, -1],
            [0, 1, 0, 0, 0, 1, 13, 1, -1],
            [0, 1, 0, 0, 0, 1, 13, 1, -1],
            [0, 1, 0, 1, 0, 1, 13, 1, -1],
            [0, 0, 0, 0, 0, 1, 13, 0, -1],
        ])


class Peek(PlayTest):
    def messages(self, play):
        play.server(0).epoch, play.server(0).quiet = 8, 9
        row = made_row(stamp=(3, 4), host=5, asked=6, holds=1)
        nothing = made_row(stamp=(3, 4))
        return (
            (Asking(1, 7, 6, 3), [0, 1, 7, 6, 3]),
            (Asking(0, 7, 6, -1), [0, 0, 7, 6, -1]),
            (Promise(7, 2, 5), [1, 7, 2, 5]),
            (Telling(1, 2, row), [2, 1, 2, 3, 4, 5, 6, 1]),
            (Telling(0, 2, nothing), [2, 0, 2, 3, 4, -1, 0, 0]),
            (Knowing(1, 2, (3, 4), 5), [3, 1, 2, 3, 4, 5]),
            (ShutQuestion(1, 2, row), [4, 1, 2, 3, 4, 5, 6]),
            (Shut(1, 2, (3, 4)), [5, 1, 2, 3, 4]),
            (Hello(1, 2, 1), [6, 1, 2, 1]),
            (Table(1, 2, play.server(0)), [7, 1, 2, 8, 9]),
        )

    def test_each_sort_of_message(self):
        play = Play()
        for message, shown in self.messages(play):
            play.world.bag = [message]
            self.assertEqual(self.assert_nothing_else_changes(play, (PEEK, 0)), [0] + shown)

    def test_each_place(self):
        play = Play()
        pairs = self.messages(play)
        play.world.bag = [message for message, shown in pairs]
        for k, pair in enumerate(pairs):
            self.assertEqual(play.do(PEEK, k), [0] + pair[1])
        self.assert_refused(-1, play, PEEK, len(pairs))
        self.assert_refused(-1, play, PEEK, -1)

    def test_as_deliver_shows_it(self):
        line = [
            (BEGIN, 2, 10, 9), (ASK, 0, 7, 5, -1), (PEEK, 0), (DELIVER, 0), (PEEK, 0), (PEEK, 1), (PEEK, 2),
            (DELIVER, 1), (PEEK, 1),
        ]
        self.assertEqual(told(*line)[2:], [
            [0, 0, 0, 7, 5, -1],
            [0, 2, 4, 1, 7, 0, 5, 8, 2, 1, 0, 0, 1, 7, 10, 1],
            [0, 1, 7, 0, 5], [0, 2, 1, 0, 0, 1, 7, 10, 1], [-1],
            [0, 1, 6, 3, 0, 0, 0, 1, 10], [0, 3, 0, 0, 0, 1, 10],
        ])


class Who(PlayTest):
    def test_in_the_order_of_hosts(self):
        play = busy_play()
        self.assertEqual(play.do(WHO, 3), [0, 3, 2, 41, 5, 42, 9, 40])
        self.assertEqual(play.do(WHO, 1), [0, 1, 2, 43])
        self.assertEqual(play.do(WHO, 0), [0, 1, 2, 44])
        self.assertEqual(play.do(WHO, 2), [0, 0])

    def test_host_0_and_address_0(self):
        play = Play()
        play.world.holdings = {(10, 0): 5, (0, 0): 6, (9, 0): 7, (0, 1): 8}
        self.assertEqual(play.do(WHO, 0), [0, 3, 0, 6, 9, 7, 10, 5])

    def test_holdings_end_by_a_tick(self):
        play = busy_play()
        play.do(TICK, 19)
        self.assertEqual(play.do(WHO, 3), [0, 3, 2, 41, 5, 42, 9, 40])
        play.do(TICK, 1)
        self.assertEqual(play.do(WHO, 3), [0, 2, 2, 41, 5, 42])
        play.do(TICK, 2)
        self.assertEqual(play.do(WHO, 3), [0, 0])

    def test_through_calls_alone(self):
        line = [
            (BEGIN, 2, 10, 9), (WHO, 0), (ASK, 0, 7, 5, -1), (DELIVER, 0), (WHO, 0), (DELIVER, 0), (WHO, 0),
            (WHO, 1), (TICK, 2), (ASK, 0, 7, 5, -1), (DELIVER, 1), (DELIVER, 1), (WHO, 0), (TICK, 4), (WHO, 0),
            (TICK, 1), (WHO, 0),
        ]
        answered = told(*line)
        self.assertEqual([answers for call, answers in zip(line, answered) if call[0] == WHO], [
            [0, 0], [0, 0], [0, 1, 7, 5], [0, 0], [0, 1, 7, 7], [0, 1, 7, 7], [0, 0],
        ])


class Held(PlayTest):
    def test_in_the_order_of_addresses(self):
        play = busy_play()
        self.assertEqual(play.do(HELD, 2), [0, 3, 0, 44, 1, 43, 3, 41])
        self.assertEqual(play.do(HELD, 9), [0, 1, 3, 40])
        self.assertEqual(play.do(HELD, 3), [0, 0])

    def test_many_addresses(self):
        play = Play(4096)
        play.world.holdings = {(8, a): a + 1 for a in (100, 20, 3, 4095, 0)}
        self.assertEqual(play.do(HELD, 8), [0, 5, 0, 1, 3, 4, 20, 21, 100, 101, 4095, 4096])

    def test_the_greatest_host(self):
        play = Play()
        play.world.holdings = {(LAST_HOST, 1): 5, (0, 2): 6}
        self.assertEqual(play.do(HELD, LAST_HOST), [0, 1, 1, 5])
        self.assertEqual(play.do(HELD, 0), [0, 1, 2, 6])
        self.assert_refused(-1, play, HELD, HUGE)

    def test_holdings_end_by_a_tick(self):
        play = busy_play()
        play.do(TICK, 22)
        self.assertEqual(play.do(HELD, 2), [0, 2, 0, 44, 1, 43])
        play.do(TICK, 1)
        self.assertEqual(play.do(HELD, 2), [0, 1, 0, 44])
        play.do(TICK, 1)
        self.assertEqual(play.do(HELD, 2), [0, 0])

    def test_of_both_servers_through_calls_alone(self):
        line = [
            (BEGIN, 2, 10, 9), (HELD, 7), (ASK, 1, 7, 6, -1), (ASK, 0, 7, 5, -1), (DELIVER, 0), (DELIVER, 0),
            (DELIVER, 0), (HELD, 7), (DELIVER, 1), (HELD, 7), (HELD, 8), (TICK, 5), (HELD, 7),
        ]
        answered = told(*line)
        self.assertEqual([answers for call, answers in zip(line, answered) if call[0] == HELD],
                         [[0, 0], [0, 1, 1, 6], [0, 2, 0, 5, 1, 6], [0, 0], [0, 1, 1, 6]])


class Count(PlayTest):
    def play_of_rows(self, rows):
        play = Play(len(rows))
        play.world.now = 20
        for a, fields in enumerate(rows):
            play.set_row(0, a, **fields)
        return play

    def test_all_its_numbers_in_their_order(self):
        play = self.play_of_rows([
            {"holds": 1}, {"holds": 1, "host": 0}, {"holds": 1, "host": 4}, {"host": 5}, {"holds": 1, "mine": 21},
            {"holds": 1, "host": 6, "pshut": 1}, {"host": 7, "pshut": 1}, {"host": 8},
        ])
        self.assertEqual(play.do(COUNT, 0), [0, 5, 2, 6])
        self.assertEqual(play.do(COUNT, 1), [0, 4, 4, 0])

    def test_mine_that_ends_now_is_over(self):
        play = self.play_of_rows([{"holds": 1, "mine": 19}, {"holds": 1, "mine": 20}, {"holds": 1, "mine": 21}])
        self.assertEqual(play.do(COUNT, 0), [0, 3, 2, 0])

    def test_free_at_a_server_that_is_alone(self):
        rows = [{"host": 4, "heard": 20}, {"heard": 21}, {"mine": 21}, {"holds": 1, "host": 5},
                {"holds": 1, "heard": 99}]
        for alone, free in ((-1, 1), (11, 1), (10, 3), (0, 3)):
            play = self.play_of_rows(rows)
            play.server(0).alone = alone
            self.assertEqual(play.do(COUNT, 0), [0, 2, free, 2], alone)

    def test_of_a_server_that_does_not_work(self):
        for spoil in UNFIT:
            play = Play(5)
            spoil(play, play.server(0))
            self.assertEqual(play.do(COUNT, 0), [0, 3, 3, 0])

    def test_of_a_new_world(self):
        for n in (1, 2, 5, 4096):
            self.assertEqual(told((BEGIN, n, 1, 1), (COUNT, 0), (COUNT, 1))[1:],
                             [[0, (n + 1) // 2, (n + 1) // 2, 0], [0, n // 2, n // 2, 0]])

    def test_through_calls_alone(self):
        line = [
            (BEGIN, 4, 10, 9), (ASK, 0, 7, 5, -1), (DELIVER, 0), (COUNT, 0), (COUNT, 1), (DELIVER, 1), (COUNT, 1),
            (STOP, 1), (WIPE, 1), (COUNT, 1), (DECLARE, 0), (TICK, 9), (COUNT, 0), (TICK, 1), (COUNT, 0),
        ]
        answered = told(*line)
        self.assertEqual([answers for call, answers in zip(line, answered) if call[0] == COUNT], [
            [0, 2, 1, 1], [0, 2, 2, 0], [0, 2, 2, 1], [0, 0, 0, 0], [0, 2, 1, 1], [0, 2, 4, 1],
        ])


class State(PlayTest):
    def test_all_its_numbers_in_their_order(self):
        self.assertEqual(busy_play().do(STATE), [0, 20, 2, 4])

    def test_through_calls_alone(self):
        line = [
            (BEGIN, 2, 10, 3), (STATE,), (TICK, 4), (STATE,), (ASK, 0, 7, 5, -1), (STATE,), (DELIVER, 0), (STATE,),
            (STOP, 1), (STATE,), (START, 1), (STATE,), (STOP, 0), (DECLARE, 1), (STATE,), (BEGIN, 1, 1, 1), (STATE,),
        ]
        answered = told(*line)
        self.assertEqual([answers for call, answers in zip(line, answered) if call[0] == STATE], [
            [0, 0, 0, 0], [0, 4, 0, 0], [0, 4, 1, 0], [0, 4, 2, 0], [0, 4, 2, 0], [0, 4, 2, 1], [0, 4, 2, 2],
            [0, 0, 0, 0],
        ])


if __name__ == "__main__":
    unittest.main()
