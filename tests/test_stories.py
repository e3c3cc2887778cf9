"""Longer lines over all the calls, seen through what answers gives back alone."""

import unittest

from support import (
    ASK, BEGIN, CALM, COUNT, DECLARE, DELIVER, HELD, HELLO, LOSE, PEEK, ROW, SERVER, SHARE, START, STATE, STOP, SWEEP,
    TELL, TICK, WHO, WIPE,
    flat, told,
)
from lendpartners.world import answers

NOTHING = [0, 0, 0, 0, -1, 0, 0, 0, 0, 0, 0]


class Story(unittest.TestCase):
    def assert_told(self, *pairs):
        """Each call is followed by what it is to answer; all of them are one line."""
        calls = [call for call, answered in pairs]
        for (call, answered), really in zip(pairs, told(*calls)):
            self.assertEqual(really, answered, call)
        self.assertEqual(answers(flat(calls)),
                         [number for call, answered in pairs for number in [len(answered)] + answered])


class APromiseThatEnds(Story):
    def test_a_sweep_and_the_shut_free_the_address(self):
        self.assert_told(
            ((BEGIN, 2, 10, 9), [0]),
            ((ASK, 0, 7, 5, -1), [0]),
            ((CALM,), [0, 4]),
            ((WHO, 0), [0, 1, 7, 5]),
            ((HELD, 7), [0, 1, 0, 5]),
            ((COUNT, 0), [0, 1, 0, 1]),
            ((COUNT, 1), [0, 1, 1, 1]),
            ((SWEEP, 0), [0, 0]),
            ((TICK, 4), [0, 4]),
            ((SWEEP, 0), [0, 0]),
            ((TICK, 1), [0, 5]),
            ((WHO, 0), [0, 0]),
            ((COUNT, 0), [0, 1, 0, 1]),
            ((ASK, 0, 8, 5, -1), [0]),
            ((CALM,), [0, 1]),
            ((SWEEP, 0), [0, 1]),
            ((PEEK, 0), [0, 4, 1, 0, 0, 1, 7, 10]),
            ((ROW, 0, 0), [0, 0, 1, 1, 7, 5, 0, 10, 10, 0, 0]),
            ((ROW, 1, 0), [0, 0, 1, 0, 7, 0, 10, 0, 0, 0, 0]),
            ((DELIVER, 0), [0, 1, 5, 5, 0, 0, 0, 1]),
            ((ROW, 1, 0), [0, 0, 1, 0, 7, 0, 10, 0, 0, 1, 0]),
            ((COUNT, 0), [0, 1, 0, 1]),
            ((PEEK, 0), [0, 5, 0, 0, 0, 1]),
            ((DELIVER, 0), [0, 0]),
            ((ROW, 0, 0), [0, 0, 1, 1, 7, 5, 0, 10, 10, 0, 1]),
            ((COUNT, 0), [0, 1, 1, 1]),
            ((SWEEP, 0), [0, 0]),
            ((ASK, 0, 8, 5, -1), [0]),
            ((DELIVER, 0), [0, 2, 4, 1, 8, 0, 10, 8, 2, 1, 0, 0, 2, 8, 15, 1]),
            ((CALM,), [0, 3]),
            ((WHO, 0), [0, 1, 8, 10]),
            ((HELD, 7), [0, 0]),
            ((ROW, 0, 0), [0, 0, 2, 1, 8, 10, 0, 15, 15, 0, 0]),
            ((ROW, 1, 0), [0, 0, 2, 0, 8, 0, 15, 0, 0, 0, 0]),
        )

    def test_a_host_that_was_shut_gets_another_address_from_the_partner(self):
        self.assert_told(
            ((BEGIN, 2, 10, 9), [0]),
            ((ASK, 0, 7, 5, -1), [0]),
            ((CALM,), [0, 4]),
            ((TICK, 5), [0, 5]),
            ((SWEEP, 0), [0, 1]),
            ((CALM,), [0, 2]),
            ((ASK, 1, 7, 5, 0), [0]),
            ((DELIVER, 0), [0, 2, 4, 1, 7, 1, 10, 8, 2, 0, 1, 0, 1, 7, 15, 1]),
        )

    def test_a_host_that_comes_back_first_keeps_its_address(self):
        self.assert_told(
            ((BEGIN, 2, 10, 9), [0]),
            ((ASK, 0, 7, 5, -1), [0]),
            ((CALM,), [0, 4]),
            ((TICK, 5), [0, 5]),
            ((SWEEP, 0), [0, 1]),
            ((CALM,), [0, 2]),
            ((ASK, 0, 7, 5, -1), [0]),
            ((CALM,), [0, 4]),
            ((ROW, 0, 0), [0, 0, 1, 1, 7, 10, 0, 15, 15, 0, 1]),
            ((COUNT, 0), [0, 1, 0, 1]),
            ((WHO, 0), [0, 1, 7, 10]),
            ((TICK, 5), [0, 10]),
            ((COUNT, 0), [0, 1, 1, 1]),
        )

    def test_no_shut_while_the_partner_promised(self):
        self.assert_told(
            ((BEGIN, 2, 10, 9), [0]),
            ((ASK, 0, 7, 5, -1), [0]),
            ((CALM,), [0, 4]),
            ((TICK, 3), [0, 3]),
            ((ASK, 1, 7, 20, -1), [0]),
            ((CALM,), [0, 4]),
            ((ROW, 1, 0), [0, 0, 1, 0, 7, 13, 10, 43, 43, 0, 0]),
            ((ROW, 0, 0), [0, 0, 1, 1, 7, 5, 43, 10, 10, 0, 0]),
            ((WHO, 0), [0, 1, 7, 13]),
            ((TICK, 9), [0, 12]),
            ((SWEEP, 0), [0, 1]),
            ((CALM,), [0, 1]),
            ((ROW, 1, 0), [0, 0, 1, 0, 7, 13, 10, 43, 43, 0, 0]),
            ((TICK, 1), [0, 13]),
            ((WHO, 0), [0, 0]),
            ((SWEEP, 0), [0, 1]),
            ((CALM,), [0, 2]),
            ((COUNT, 0), [0, 1, 1, 1]),
        )

    def test_what_the_partner_knows_may_be_promised_beyond_the_lead(self):
        self.assert_told(
            ((BEGIN, 2, 10, 9), [0]),
            ((ASK, 0, 7, 30, -1), [0]),
            ((CALM,), [0, 4]),
            ((WHO, 0), [0, 1, 7, 10]),
            ((ASK, 0, 7, 30, -1), [0]),
            ((CALM,), [0, 4]),
            ((WHO, 0), [0, 1, 7, 30]),
            ((ROW, 0, 0), [0, 0, 1, 1, 7, 30, 0, 60, 60, 0, 0]),
        )


class APartnerThatIsGone(Story):
    def test_declare_and_the_wait_of_lead(self):
        self.assert_told(
            ((BEGIN, 4, 10, 9), [0]),
            ((ASK, 1, 7, 30, -1), [0]),
            ((CALM,), [0, 4]),
            ((ROW, 0, 1), [0, 0, 1, 0, 7, 0, 60, 0, 0, 0, 0]),
            ((STOP, 1), [0]),
            ((TICK, 10), [0, 10]),
            ((WHO, 1), [0, 0]),
            ((DECLARE, 0), [0, 1]),
            ((SERVER, 0), [0, 1, 0, 1, 0, 1, 0, 0, 10]),
            ((COUNT, 0), [0, 2, 2, 1]),
            ((TICK, 9), [0, 19]),
            ((COUNT, 0), [0, 2, 2, 1]),
            ((ASK, 0, 8, 5, 3), [0]),
            ((DELIVER, 0), [0, 2, 4, 1, 8, 0, 24, 8, 2, 1, 0, 1, 1, 8, 29, 1]),
            ((CALM,), [0, 2]),
            ((TICK, 1), [0, 20]),
            ((COUNT, 0), [0, 2, 2, 2]),
            ((ASK, 0, 9, 5, 3), [0]),
            ((DELIVER, 0), [0, 2, 4, 1, 9, 3, 25, 8, 2, 1, 3, 1, 1, 9, 30, 1]),
            ((CALM,), [0, 2]),
            ((WHO, 3), [0, 1, 9, 25]),
            ((COUNT, 0), [0, 3, 1, 3]),
            # What the partner asked to know until 60 is not yet over.
            ((TICK, 39), [0, 59]),
            ((COUNT, 0), [0, 3, 3, 3]),
            ((TICK, 1), [0, 60]),
            ((COUNT, 0), [0, 3, 4, 3]),
            ((START, 1), [0, 2]),
            ((HELLO, 1), [0]),
            ((PEEK, 0), [0, 6, 0, 2, 0]),
            ((CALM,), [0, 2]),
            ((SERVER, 1), [0, 1, 0, 1, 0, 1, 0, 2, -1]),
            ((SERVER, 0), [0, 1, 0, 1, 0, 1, 0, 0, -1]),
            ((ROW, 1, 3), [0, 1, 1, 0, 9, 0, 30, 0, 0, 0, 0]),
            ((ROW, 1, 0), [0, 1, 1, 0, 8, 0, 29, 0, 0, 0, 0]),
            ((ROW, 1, 1), [0, 0, 1, 1, 7, 10, 0, 60, 60, 0, 0]),
            ((COUNT, 0), [0, 3, 1, 3]),
            ((COUNT, 1), [0, 1, 0, 3]),
            ((STATE,), [0, 60, 0, 2]),
        )

    def test_the_host_of_the_partner_keeps_its_address(self):
        self.assert_told(
            ((BEGIN, 2, 10, 9), [0]),
            ((ASK, 1, 7, 5, -1), [0]),
            ((CALM,), [0, 4]),
            ((STOP, 1), [0]),
            ((ASK, 0, 7, 5, -1), [0]),
            ((CALM,), [0, 3]),
            ((HELD, 7), [0, 1, 1, 5]),
            ((TICK, 3), [0, 3]),
            ((ASK, 0, 7, 5, -1), [0]),
            ((CALM,), [0, 3]),
            ((HELD, 7), [0, 1, 1, 8]),
        )

    def test_declared_while_it_waits_all_rights_are_its_own(self):
        self.assert_told(
            ((BEGIN, 4, 10, 9), [0]),
            ((STOP, 0), [0]),
            ((STOP, 1), [0]),
            ((START, 0), [0, 1]),
            ((SERVER, 0), [0, 1, 1, 0, 0, 0, 0, 1, -1]),
            ((SWEEP, 0), [-4]),
            ((SHARE, 0, 1), [-4]),
            ((TELL, 0, 1), [-4]),
            ((DECLARE, 0), [0, 2]),
            ((SERVER, 0), [0, 1, 0, 0, 0, 2, 10, 1, 0]),
            ((COUNT, 0), [0, 4, 4, 0]),
            ((ROW, 0, 1), [0, 2, 0, 1, -1, 0, 0, 0, 0, 0, 0]),
            ((SHARE, 0, 1), [-4]),
            ((TICK, 10), [0, 10]),
            ((SERVER, 0), [0, 1, 0, 1, 0, 2, 10, 1, 0]),
            ((START, 1), [0, 3]),
            ((HELLO, 1), [0]),
            ((CALM,), [0, 2]),
            ((COUNT, 1), [0, 0, 0, 0]),
            ((SHARE, 0, 2), [0, 2]),
            ((PEEK, 0), [0, 2, 1, 3, 2, 1, -1, 0, 0]),
            ((PEEK, 1), [0, 2, 1, 2, 2, 1, -1, 0, 0]),
            ((CALM,), [0, 2]),
            ((COUNT, 0), [0, 2, 2, 0]),
            ((COUNT, 1), [0, 2, 2, 0]),
            ((ROW, 1, 3), [0, 2, 1, 1, -1, 0, 0, 0, 0, 0, 0]),
        )


class AWipedDisk(Story):
    def test_hello_and_table(self):
        self.assert_told(
            ((BEGIN, 2, 10, 9), [0]),
            ((ASK, 1, 7, 5, -1), [0]),
            ((CALM,), [0, 4]),
            ((STOP, 1), [0]),
            ((WIPE, 1), [0]),
            ((ROW, 1, 1), NOTHING),
            ((COUNT, 1), [0, 0, 0, 0]),
            ((START, 1), [0, 1]),
            ((SERVER, 1), [0, 1, 1, 0, 1, 0, 0, 1, -1]),
            ((HELLO, 1), [0]),
            ((PEEK, 0), [0, 6, 0, 1, 1]),
            ((DELIVER, 0), [0, 1, 5, 7, 1, 1, 1, 0]),
            ((ROW, 0, 0), [0, 1, 0, 1, -1, 0, 0, 0, 0, 0, 0]),
            ((ROW, 0, 1), [0, 1, 0, 0, 7, 0, 10, 0, 0, 0, 0]),
            ((PEEK, 0), [0, 7, 1, 1, 1, 0]),
            ((DELIVER, 0), [0, 0]),
            ((SERVER, 1), [0, 1, 0, 0, 0, 1, 10, 1, -1]),
            ((ROW, 1, 0), [0, 1, 0, 0, -1, 0, 0, 0, 0, 0, 0]),
            ((ROW, 1, 1), [0, 1, 0, 1, 7, 10, 0, 0, 0, 0, 0]),
            ((TELL, 1, 1), [-4]),
            ((SWEEP, 1), [-4]),
            ((SHARE, 1, 1), [-4]),
            ((ASK, 1, 7, 5, -1), [0]),
            ((CALM,), [0, 1]),
            ((TICK, 9), [0, 9]),
            ((SWEEP, 1), [-4]),
            ((TICK, 1), [0, 10]),
            ((SERVER, 1), [0, 1, 0, 1, 0, 1, 10, 1, -1]),
            ((SWEEP, 1), [0, 1]),
            ((PEEK, 0), [0, 4, 0, 1, 1, 0, 7, 0]),
            ((CALM,), [0, 2]),
            ((ROW, 0, 1), [0, 1, 0, 0, 7, 0, 10, 0, 0, 1, 0]),
            ((ROW, 1, 1), [0, 1, 0, 1, 7, 10, 0, 0, 0, 0, 1]),
            ((ASK, 1, 8, 5, 1), [0]),
            ((CALM,), [0, 4]),
            ((WHO, 1), [0, 1, 8, 15]),
            ((ROW, 1, 1), [0, 1, 1, 1, 8, 15, 0, 20, 20, 0, 0]),
        )

    def test_messages_of_the_time_before_are_of_no_use(self):
        self.assert_told(
            ((BEGIN, 2, 10, 9), [0]),
            ((ASK, 1, 7, 5, -1), [0]),
            ((DELIVER, 0), [0, 2, 4, 1, 7, 1, 5, 8, 2, 0, 1, 0, 1, 7, 10, 1]),
            ((STOP, 1), [0]),
            ((WIPE, 1), [0]),
            ((START, 1), [0, 1]),
            ((HELLO, 1), [0]),
            ((DELIVER, 2), [0, 1, 5, 7, 1, 1, 1, 0]),
            ((DELIVER, 1), [0, 0]),
            ((ROW, 0, 1), [0, 1, 0, 0, -1, 0, 0, 0, 0, 0, 0]),
            ((DELIVER, 0), [0, 0]),
            ((WHO, 1), [0, 1, 7, 5]),
            ((CALM,), [0, 1]),
            # The promise of the time before is over when the quiet is.
            ((SERVER, 1), [0, 1, 0, 0, 0, 1, 10, 1, -1]),
            ((TICK, 10), [0, 10]),
            ((WHO, 1), [0, 0]),
            ((ASK, 1, 8, 5, -1), [0]),
            ((CALM,), [0, 4]),
            ((WHO, 1), [0, 1, 8, 15]),
        )


class SharedAddresses(Story):
    def test_a_server_lends_what_it_was_given(self):
        self.assert_told(
            ((BEGIN, 3, 10, 9), [0]),
            ((SHARE, 0, 1), [0, 1]),
            ((ASK, 1, 7, 5, 2), [0]),
            ((LOSE, 0), [0]),
            ((CALM,), [0, 4]),
            # The right was lost under way: neither has it.
            ((HELD, 7), [0, 1, 1, 5]),
            ((ROW, 0, 2), [0, 0, 1, 0, -1, 0, 0, 0, 0, 0, 0]),
            ((ROW, 1, 2), NOTHING),
            ((TELL, 0, 2), [0]),
            ((CALM,), [0, 1]),
            ((ASK, 1, 8, 5, 2), [0]),
            ((CALM,), [0, 4]),
            ((HELD, 8), [0, 1, 2, 5]),
            ((ROW, 0, 2), [0, 0, 2, 0, 8, 0, 10, 0, 0, 0, 0]),
            ((TICK, 5), [0, 5]),
            ((SWEEP, 1), [0, 2]),
            ((PEEK, 0), [0, 4, 0, 1, 0, 1, 7, 10]),
            ((PEEK, 1), [0, 4, 0, 2, 0, 2, 8, 10]),
            ((CALM,), [0, 4]),
            ((SHARE, 1, 4096), [0, 2]),
            ((PEEK, 0), [0, 2, 0, 2, 0, 3, -1, 0, 0]),
            ((PEEK, 1), [0, 2, 0, 1, 0, 2, -1, 0, 0]),
            ((CALM,), [0, 2]),
            ((COUNT, 0), [0, 3, 3, 0]),
            ((COUNT, 1), [0, 0, 0, 0]),
            ((SHARE, 1, 4096), [0, 0]),
        )


if __name__ == "__main__":
    unittest.main()
