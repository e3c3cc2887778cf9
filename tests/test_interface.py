"""The interface: what answers takes and gives back, and that it keeps and changes nothing."""

import unittest

from support import (
    ASK, BEGIN, CALM, COUNT, DECLARE, DELIVER, DOUBLE, HELD, HELLO, HUGE, PEEK, ROW, SERVER, SHARE, START, STATE, STOP,
    SWEEP, TELL, TICK, WHO, WIPE,
    flat, told,
)
from lendpartners.world import answers

LINE = flat([
    (BEGIN, 3, 10, 3), (ASK, 0, 5, 9, 2), (DOUBLE, 0), (DELIVER, 0), (STOP, 1), (WIPE, 1), (START, 1), (TICK, 3),
    (HELLO, 1), (DELIVER, 0), (HELLO, 1), (STOP, 0), (DECLARE, 1), (DELIVER, 9), (CALM,), (START, 0), (HELLO, 0),
    (PEEK, 0), (CALM,), (TELL, 0, 2), (SWEEP, 0), (SHARE, 0, 9), (CALM,), (ROW, 0, 1), (SERVER, 0), (SERVER, 1),
    (WHO, 2), (HELD, 5), (COUNT, 0), (COUNT, 1), (STATE,),
])

# Each call with its own count of numbers.
COUNTS = (3, 1, 4, 1, 1, 1, 1, 1, 1, 1, 1, 2, 1, 2, 2, 1, 1, 1, 1, 1, 0, 0)


class Watched(list):
    """A list that does not let itself be changed, not for a while either."""

    def refuse(self, *args, **kwargs):
        raise AssertionError("the list that was handed in was changed")

    append = extend = insert = pop = remove = clear = sort = reverse = refuse
    __setitem__ = __delitem__ = __iadd__ = __imul__ = refuse


class Interface(unittest.TestCase):
    def test_counts_stand_ahead_of_what_is_answered(self):
        self.assertEqual(answers([1, 5, 0, 2, 10, 9, 1, 5, 2, 0, 7, 5, -1, 3, 0, 6, 2]),
                         [1, -9, 1, 0, 2, 0, 5, 1, 0, 16, 0, 2, 4, 1, 7, 0, 10, 8, 2, 1, 0, 0, 1, 7, 15, 1, 1, -1])

    def test_one_call(self):
        self.assertEqual(answers([0, 1, 1, 1]), [1, 0])
        self.assertEqual(answers([6, 0]), [1, -9])

    def test_whole_numbers_in_a_list(self):
        given = answers(LINE)
        self.assertIs(given.__class__, list)
        self.assertEqual({number.__class__ for number in given}, {int})

    def test_the_list_is_the_same_afterwards(self):
        calls = list(LINE)
        answers(calls)
        self.assertEqual(calls, LINE)

    def test_the_list_is_not_changed_for_a_while_either(self):
        self.assertEqual(answers(Watched(LINE)), answers(LINE))

    def test_nothing_is_kept_from_one_time_to_the_next(self):
        first = answers(LINE)
        self.assertEqual(answers(LINE), first)
        self.assertEqual(answers([1, 5]), [1, -9])
        self.assertEqual(answers(LINE), first)

    def test_what_is_given_back_is_new_each_time(self):
        first = answers(LINE)
        first.clear()
        self.assertNotEqual(answers(LINE), [])

    def test_each_call_takes_its_own_count_of_numbers(self):
        for place, count in enumerate(COUNTS):
            # Numbers that are outside every range, so that the call itself changes nothing.
            call = (place,) + (HUGE,) * count
            answered = told(call, (BEGIN, 1, 1, 1), call, (STATE,))
            refusal = [-1] if count else [0] * (2 if place == CALM else 4)
            self.assertEqual(answered, [[-9] if place != BEGIN else [-1], [0], refusal, [0, 0, 0, 0]], place)

    def test_a_list_is_read_to_its_end(self):
        self.assertEqual(answers([0, 2, 10, 9, 20, 21, 19, 1, 18, 7, 17, 1, 15, 0, 13, 0, 1, 16, 0, 12, 0, 11, 0, 1, 14,
                                  1, 1, 20, 21]),
                         [1, 0, 2, 0, 0, 4, 0, 0, 0, 0, 4, 0, 1, 1, 0, 2, 0, 0, 2, 0, 0, 9, 0, 1, 0, 1, 0, 0, 0, 0, -1,
                          2, 0, 1, 9, 0, 2, 1, 0, 0, 1, -1, 0, 0, 2, 0, 0, 1, 0, 11, 0, 0, 0, 1, -1, 0, 0, 0, 0, 0, 0,
                          2, 0, 2, 4, 0, 0, 0, 0])

    def test_calls_without_numbers_alone(self):
        self.assertEqual(answers([20]), [1, -9])
        self.assertEqual(answers([21]), [1, -9])
        self.assertEqual(answers([0, 1, 1, 1] + [20, 21] * 199), [1, 0] + [2, 0, 0, 4, 0, 0, 0, 0] * 199)

    def test_sharing_to_and_fro_on_the_largest_world(self):
        line = [(BEGIN, 4096, 10, 10000)] + [(SHARE, 0, 4096), (CALM,), (SHARE, 1, 4096), (CALM,)] * 3
        self.assertEqual(told(*line)[1:], [[0, 2048], [0, 2048], [0, 4096], [0, 4096]] + [[0, 4096]] * 8)

    def test_four_hundred_calls_on_the_largest_world(self):
        line = [(BEGIN, 4096, 10, 10000)]
        for host in range(199):
            line.extend([(ASK, 0, host, 5, -1), (DELIVER, 2 * host)])
        given = answers(flat(line))
        self.assertEqual(given[-16:], [0, 2, 4, 1, 198, 396, 5, 8, 2, 1, 396, 0, 1, 198, 10, 1])


if __name__ == "__main__":
    unittest.main()
