"""The refusals that all calls share, the ranges of the numbers, and that nothing is changed by a refusal."""

import unittest

from support import (
    ASK, BEGIN, CALM, COUNT, DECLARE, DELIVER, DOUBLE, HELD, HELLO, HUGE, LAST_HOST, LOSE, PEEK, ROW, SERVER, SHARE,
    START, STATE, STOP, SWEEP, TELL, TICK, WHO, WIPE,
    Play, PlayTest, last, snapshot, told,
)
from lendpartners.world import Line, answer

GOOD = {
    BEGIN: (4, 10, 100), TICK: (1,), ASK: (0, 7, 5, -1), DELIVER: (0,), LOSE: (0,), DOUBLE: (0,),
    STOP: (0,), START: (0,), WIPE: (0,), DECLARE: (0,), HELLO: (0,),
    TELL: (0, 1), SWEEP: (0,), SHARE: (0, 1), ROW: (0, 1), SERVER: (0,), PEEK: (0,), WHO: (1,), HELD: (7,),
    COUNT: (0,), CALM: (), STATE: (),
}

# (call, place of the number in it, least, greatest) in a world of four addresses and two messages
RANGES = (
    (BEGIN, 0, 1, 4096), (BEGIN, 1, 1, 1000000000), (BEGIN, 2, 1, 10000),
    (TICK, 0, 0, 1000000000000),
    (ASK, 0, 0, 1), (ASK, 1, 0, LAST_HOST), (ASK, 2, 1, 1000000000), (ASK, 3, -1, 3),
    (DELIVER, 0, 0, 1), (LOSE, 0, 0, 1), (DOUBLE, 0, 0, 1),
    (STOP, 0, 0, 1), (START, 0, 0, 1), (WIPE, 0, 0, 1), (DECLARE, 0, 0, 1), (HELLO, 0, 0, 1),
    (TELL, 0, 0, 1), (TELL, 1, 0, 3), (SWEEP, 0, 0, 1), (SHARE, 0, 0, 1), (SHARE, 1, 0, 4096),
    (ROW, 0, 0, 1), (ROW, 1, 0, 3), (SERVER, 0, 0, 1), (PEEK, 0, 0, 1), (WHO, 0, 0, 3), (HELD, 0, 0, LAST_HOST),
    (COUNT, 0, 0, 1),
)


def play_of_two():
    """A world of four addresses and two messages in the bag."""
    play = Play()
    play.do(ASK, 0, 1, 5, -1)
    play.do(ASK, 1, 2, 5, -1)
    return play


def call_with(place, at, number):
    numbers = list(GOOD[place])
    numbers[at] = number
    return [place] + numbers


class Ranges(PlayTest):
    def test_least_and_greatest_are_taken(self):
        for place, at, least, greatest in RANGES:
            for number in (least, greatest):
                with self.subTest(place=place, at=at, number=number):
                    play = play_of_two()
                    answered = play.do(*call_with(place, at, number))
                    # Such as stop and start have refusals of their own, but not this one.
                    self.assertNotEqual(answered, [-1])

    def test_one_outside_and_far_outside_are_refused(self):
        for place, at, least, greatest in RANGES:
            for number in (least - 1, greatest + 1, -HUGE, HUGE):
                with self.subTest(place=place, at=at, number=number):
                    self.assert_refused(-1, play_of_two(), *call_with(place, at, number))

    def test_numbers_at_the_edges_are_done(self):
        edge = [(BEGIN, 4096, 1000000000, 10000), (ASK, 1, LAST_HOST, 1000000000, 4095),
                (ASK, 0, 0, 1, -1), (TICK, 1000000000000), (TICK, 0), (BEGIN, 1, 1, 1), (ASK, 0, 0, 1, 0)]
        self.assertEqual(told(*edge), [[0], [0], [0], [0, 1000000000000], [0, 1000000000000], [0], [0]])

    def test_numbers_of_the_later_calls_at_the_edges_are_done(self):
        begin = (BEGIN, 4096, 1, 2)
        for call, answered in (
            ((TELL, 0, 4095), [0]), ((TELL, 1, 0), [0]), ((SHARE, 0, 0), [0, 0]), ((SHARE, 1, 4096), [0, 2]),
            ((ROW, 0, 0), [0, 0, 0, 1, -1] + [0] * 6), ((ROW, 1, 4095), [0, 0, 0, 1, -1] + [0] * 6),
            ((SERVER, 0), [0, 1, 0, 1, 0, 0, 0, 0, -1]), ((SERVER, 1), [0, 1, 0, 1, 0, 0, 0, 0, -1]),
            ((WHO, 0), [0, 0]), ((WHO, 4095), [0, 0]), ((HELD, 0), [0, 0]), ((HELD, LAST_HOST), [0, 0]),
            ((COUNT, 0), [0, 2048, 2048, 0]), ((COUNT, 1), [0, 2048, 2048, 0]), ((SWEEP, 0), [0, 0]),
            ((SWEEP, 1), [0, 0]), ((CALM,), [0, 0]), ((STATE,), [0, 0, 0, 0]),
        ):
            with self.subTest(call=call):
                self.assertEqual(last(begin, call), answered)

    def test_addresses_end_with_those_of_this_world(self):
        for call in ((ASK, 0, 5, 5, 1), (TELL, 0, 1), (ROW, 0, 1), (WHO, 1)):
            self.assertEqual(last((BEGIN, 1, 1, 1), call), [-1])
            self.assertEqual(last((BEGIN, 2, 1, 1), call)[0], 0)
            self.assertEqual(last((BEGIN, 2, 1, 1), (BEGIN, 1, 1, 1), call), [-1])

    def test_every_place_in_an_empty_bag_is_outside(self):
        for place in (DELIVER, LOSE, DOUBLE, PEEK):
            for k in (-HUGE, -1, 0, 1, HUGE):
                with self.subTest(place=place, k=k):
                    self.assert_refused(-1, Play(), place, k)

    def test_a_bag_that_became_empty_has_no_place(self):
        self.assertEqual(told((BEGIN, 2, 5, 5), (ASK, 0, 1, 1, -1), (LOSE, 0), (LOSE, 0), (DELIVER, 0), (PEEK, 0))[2:],
                         [[0], [-1], [-1], [-1]])

    def test_a_range_in_a_later_number_is_looked_at_too(self):
        self.assert_refused(-1, play_of_two(), BEGIN, 4, 10, 0)
        self.assert_refused(-1, play_of_two(), ASK, 0, 7, 5, 4)
        for place in (TELL, ROW):
            self.assert_refused(-1, play_of_two(), place, 0, 4)
            self.assert_refused(-1, play_of_two(), place, 2, 0)


class NoWorld(unittest.TestCase):
    def test_each_call_ahead_of_any_begin(self):
        for place in range(1, 22):
            self.assertEqual(told((place,) + GOOD[place]), [[-9]])

    def test_no_world_is_looked_at_ahead_of_the_ranges(self):
        for place in range(1, 22):
            for number in (-HUGE, HUGE):
                call = (place,) + tuple(number for good in GOOD[place])
                self.assertEqual(told(call), [[-9]])

    def test_a_refused_begin_makes_no_world(self):
        self.assertEqual(told((BEGIN, 0, 1, 1), (TICK, 1), (BEGIN, 1, 0, 1), (TICK, 1), (BEGIN, 1, 1, 0), (TICK, 1)),
                         [[-1], [-9], [-1], [-9], [-1], [-9]])

    def test_a_begin_behind_refusals_begins(self):
        self.assertEqual(told((TICK, 1), (BEGIN, 1, 1, 1), (TICK, 1)), [[-9], [0], [0, 1]])

    def test_refusals_ahead_of_begin_change_nothing(self):
        for place in range(1, 22):
            line = Line()
            self.assertEqual(answer(line, place, list(GOOD[place])), [-9])
            self.assertEqual(snapshot(line), snapshot(Line()))


class NoSuchCall(PlayTest):
    def test_another_place(self):
        for place in (-1, 22, -HUGE, HUGE):
            self.assert_refused(-8, Play(), place)
            self.assertEqual(told((place, 1)), [[-8]])

    def test_another_count_of_numbers(self):
        for place, numbers in GOOD.items():
            if numbers:
                self.assert_refused(-8, Play(), place, *numbers[1:])
            self.assert_refused(-8, Play(), place, *numbers, 0)

    def test_it_is_looked_at_ahead_of_the_missing_world(self):
        self.assertEqual(told((TICK,)), [[-8]])
        self.assertEqual(told((BEGIN, 1, 1, 1), (ASK, 0, 1, 1)), [[0], [-8]])


class RefusalsInALine(unittest.TestCase):
    """A line with refused calls in it answers the others as if those had not been there."""

    def test_refused_calls_leave_no_trace(self):
        line = [
            (BEGIN, 3, 4, 2), (ASK, 0, 5, 9, 2), (ASK, 1, 6, 9, -1), (DELIVER, 0), (DELIVER, 0), (STOP, 1),
            (DELIVER, 0), (START, 1), (HELLO, 1), (DELIVER, 0), (DELIVER, 0), (ASK, 1, 6, 9, -1), (DELIVER, 0),
        ]
        bad = [
            (BEGIN, 0, 4, 2), (TICK, -1), (TICK, 10 ** 12 + 1), (ASK, 2, 1, 1, 0), (DELIVER, 2), (LOSE, 2),
            (DOUBLE, 2), (STOP, 2), (START, -1), (START, 0), (WIPE, 0), (WIPE, 2), (DECLARE, 2), (HELLO, 0),
            (TELL, 2, 0), (TELL, 0, 3), (SWEEP, 2), (SHARE, 2, 1), (SHARE, 0, -1), (SHARE, 1, 4097), (ROW, 0, 3),
            (ROW, -1, 0), (SERVER, 2), (PEEK, 2), (WHO, 3), (HELD, -1), (COUNT, 2),
        ]
        mixed = [line[0]]
        for call in line[1:]:
            mixed.extend(bad)
            mixed.append(call)
        kept = [answered for call, answered in zip(mixed, told(*mixed)) if call not in bad]
        self.assertEqual(kept, told(*line))
        self.assertTrue(all(answered[0] < 0 for call, answered in zip(mixed, told(*mixed)) if call in bad))


if __name__ == "__main__":
    unittest.main()
