"""The interface: what answers takes and gives back, and that it keeps and changes nothing."""

import unittest

from support import ASK, BEGIN, DECLARE, DELIVER, DOUBLE, HELLO, START, STOP, TICK, WIPE, flat
from lendpartners.world import answers

LINE = flat([
    (BEGIN, 3, 10, 3), (ASK, 0, 5, 9, 2), (DOUBLE, 0), (DELIVER, 0), (STOP, 1), (WIPE, 1), (START, 1), (TICK, 3),
    (HELLO, 1), (DELIVER, 0), (HELLO, 1), (STOP, 0), (DECLARE, 1), (DELIVER, 9),
])


class Watched(list):
    """A list that does not let itself be changed, not for a while either."""

    def refuse(self, *args, **kwargs):
        raise AssertionError("the list that was handed in was changed")

    append = extend = insert = pop = remove = clear = sort = reverse = refuse
    __setitem__ = __delitem__ = __iadd__ = __imul__ = refuse


class Interface(unittest.TestCase):
    def test_counts_stand_ahead_of_what_is_answered(self):
        self.assertEqual(answers([1, 5, 0, 2, 10, 9, 1, 5, 2, 0, 7, 5, -1, 3, 0, 6, 2]),
                         [1, -9, 1, 0, 2, 0, 5, 1, 0, 16, 0, 2, 4, 1, 7, 0, 10, 8, 2, 1, 0, 0, 1, 7, 15, 1, 1, -1])

    def test_one_call(self):
        self.assertEqual(answers([0, 1, 1, 1]), [1, 0])
        self.assertEqual(answers([6, 0]), [1, -9])

    def test_whole_numbers_in_a_list(self):
        given = answers(LINE)
        self.assertIs(given.__class__, list)
        self.assertEqual({number.__class__ for number in given}, {int})

    def test_the_list_is_the_same_afterwards(self):
        calls = list(LINE)
        answers(calls)
        self.assertEqual(calls, LINE)

    def test_the_list_is_not_changed_for_a_while_either(self):
        self.assertEqual(answers(Watched(LINE)), answers(LINE))

    def test_nothing_is_kept_from_one_time_to_the_next(self):
        first = answers(LINE)
        self.assertEqual(answers(LINE), first)
        self.assertEqual(answers([1, 5]), [1, -9])
        self.assertEqual(answers(LINE), first)

    def test_what_is_given_back_is_new_each_time(self):
        first = answers(LINE)
        first.clear()
        self.assertNotEqual(answers(LINE), [])

    def test_four_hundred_calls_on_the_largest_world(self):
        line = [(BEGIN, 4096, 10, 10000)]
        for host in range(199):
            line.extend([(ASK, 0, host, 5, -1), (DELIVER, 2 * host)])
        given = answers(flat(line))
        self.assertEqual(given[-16:], [0, 2, 4, 1, 198, 396, 5, 8, 2, 1, 396, 0, 1, 198, 10, 1])


if __name__ == "__main__":
    unittest.main()
