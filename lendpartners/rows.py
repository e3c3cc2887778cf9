"""A server's row of an address, and what becomes of it.

A row is not changed once a server or a table bears it: each change makes
another row. So rows may be shared, and a table bears them as they were.
"""

NONE = -1


class Row:
    """Made as a row of nothing but for its stamp, a pair (epoch, count)."""

    def __init__(self, stamp):
        self.stamp = stamp
        self.holds = 0
        self.host = NONE
        self.mine = 0
        self.heard = 0
        self.asked = 0
        self.acked = 0
        self.shut = 0
        self.pshut = 0


def row_of_nothing():
    return Row((0, 0))


def copied(row):
    other = Row(row.stamp)
    other.holds = row.holds
    other.host = row.host
    other.mine = row.mine
    other.heard = row.heard
    other.asked = row.asked
    other.acked = row.acked
    other.shut = row.shut
    other.pshut = row.pshut
    return other


def first_rows(server, size):
    """The rows of a server as a world begins: every second address is its own."""
    own = row_of_nothing()
    own.holds = 1
    strange = row_of_nothing()
    return [own if address % 2 == server else strange for address in range(size)]


def rows_of_nothing(size):
    return [row_of_nothing()] * size


def is_kept(row, host):
    return row.host == host and row.shut == 0


def awaits_shut(row, now):
    """Whether what was promised here has ended, and the partner has not yet said that it promises no more."""
    return row.holds == 1 and row.host != NONE and row.pshut == 0 and row.mine <= now


def given(row, epoch):
    """The row of an address that the partner may bind from now on."""
    return Row((epoch, row.stamp[1] + 1))


def bound(row, epoch, host):
    other = Row((epoch, row.stamp[1] + 1))
    other.holds = 1
    other.host = host
    return other


def promised(row, end, asked):
    other = copied(row)
    other.mine = max(row.mine, end)
    other.asked = max(row.asked, asked)
    return other


def taken(row, stamp, host, asked, holds):
    """The row after it took what a telling tells."""
    if row.stamp < stamp:
        other = Row(stamp)
        other.host = host
        other.holds = 1 - holds
        other.heard = asked
        return other
    if row.stamp == stamp:
        other = copied(row)
        other.heard = max(row.heard, asked)
        return other
    return row


def acknowledged(row, end):
    other = copied(row)
    other.acked = max(row.acked, end)
    return other


def shut_here(row):
    other = copied(row)
    other.shut = 1
    return other


def shut_there(row):
    other = copied(row)
    other.pshut = 1
    return other


def stamped_anew(row, epoch):
    other = copied(row)
    other.stamp = (epoch, 0)
    other.acked = 0
    other.pshut = 0
    return other


def taken_over(row, epoch):
    """The row of a server that goes on alone without having heard its partner."""
    other = stamped_anew(row, epoch)
    other.holds = 1
    other.shut = 0
    return other


def held_beside(row, theirs):
    """The row after it was held beside the partner's row that a table bears."""
    their_end = max(theirs.mine, theirs.asked)
    if row.stamp < theirs.stamp:
        other = Row(theirs.stamp)
        other.host = theirs.host
        other.holds = 1 - theirs.holds
        other.mine = max(row.mine, theirs.heard)
        other.heard = their_end
        other.pshut = theirs.shut
        return other
    if row.stamp == theirs.stamp:
        other = copied(row)
        other.heard = max(row.heard, their_end)
        return other
    return row
