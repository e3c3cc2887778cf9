"""The eight sorts of message: what each shows, and what it does when it is delivered.

handle gives back the messages that the delivery puts, in order; whether the
bag has room for them is looked at where they are put. A message is not
changed once it is made, so a copy of it is the same message again.
"""

from lendpartners.rows import (
    NONE, acknowledged, bound, held_beside, promised, shut_here, shut_there, stamped_anew, taken,
)
from lendpartners.whole import free_address, kept_address, partner_of, works


class Promise:
    def __init__(self, host, address, end):
        self.host = host
        self.address = address
        self.end = end

    def shown(self):
        return [1, self.host, self.address, self.end]

    def handle(self, world):
        if self.end > world.now:
            holding = (self.host, self.address)
            world.holdings[holding] = max(world.holdings.get(holding, 0), self.end)
        return []


class Knowing:
    def __init__(self, to, address, stamp, end):
        self.to = to
        self.address = address
        self.stamp = stamp
        self.end = end

    def shown(self):
        return [3, self.to, self.address, self.stamp[0], self.stamp[1], self.end]

    def handle(self, world):
        server = world.servers[self.to]
        row = server.rows[self.address]
        if works(world, server) and row.stamp == self.stamp:
            server.rows[self.address] = acknowledged(row, self.end)
        return []


class Telling:
    def __init__(self, to, address, row):
        self.to = to
        self.address = address
        self.stamp = row.stamp
        self.host = row.host
        self.asked = row.asked
        self.holds = row.holds

    def shown(self):
        return [2, self.to, self.address, self.stamp[0], self.stamp[1], self.host, self.asked, self.holds]

    def handle(self, world):
        server = world.servers[self.to]
        if not works(world, server):
            return []
        row = taken(server.rows[self.address], self.stamp, self.host, self.asked, self.holds)
        server.rows[self.address] = row
        if row.stamp != self.stamp or self.host == NONE:
            return []
        return [Knowing(partner_of(self.to), self.address, row.stamp, row.heard)]


class Asking:
    def __init__(self, to, host, length, want):
        self.to = to
        self.host = host
        self.length = length
        self.want = want

    def shown(self):
        return [0, self.to, self.host, self.length, self.want]

    def handle(self, world):
        server = world.servers[self.to]
        if not works(world, server):
            return []
        address = kept_address(server, self.host, self.want)
        if address == NONE:
            address = free_address(world, server, self.want)
            if address == NONE:
                return []
            server.rows[address] = bound(server.rows[address], server.epoch, self.host)
        return self.promise_of(world, server, address)

    def promise_of(self, world, server, address):
        row = server.rows[address]
        # Beyond lead, nothing is promised that the partner has not said it knows.
        end = min(world.now + self.length, max(row.acked, world.now + world.lead))
        row = promised(row, end, world.now + 2 * self.length)
        server.rows[address] = row
        return [Promise(self.host, address, end), Telling(partner_of(self.to), address, row)]


class Shut:
    def __init__(self, to, address, stamp):
        self.to = to
        self.address = address
        self.stamp = stamp

    def shown(self):
        return [5, self.to, self.address, self.stamp[0], self.stamp[1]]

    def handle(self, world):
        server = world.servers[self.to]
        row = server.rows[self.address]
        if works(world, server) and row.stamp == self.stamp and row.holds == 1:
            server.rows[self.address] = shut_there(row)
        return []


class ShutQuestion:
    def __init__(self, to, address, row):
        self.to = to
        self.address = address
        self.stamp = row.stamp
        self.host = row.host
        self.asked = row.asked

    def shown(self):
        return [4, self.to, self.address, self.stamp[0], self.stamp[1], self.host, self.asked]

    def handle(self, world):
        server = world.servers[self.to]
        if not works(world, server):
            return []
        row = taken(server.rows[self.address], self.stamp, self.host, self.asked, 1)
        server.rows[self.address] = row
        if row.stamp != self.stamp or row.mine > world.now:
            return []
        server.rows[self.address] = shut_here(row)
        return [Shut(partner_of(self.to), self.address, row.stamp)]


class Table:
    def __init__(self, to, number, server):
        self.to = to
        self.number = number
        self.epoch = server.epoch
        self.quiet = server.quiet
        self.rows = list(server.rows)

    def shown(self):
        return [7, self.to, self.number, self.epoch, self.quiet]

    def handle(self, world):
        server = world.servers[self.to]
        if server.on == 0 or server.waits == 0 or server.number != self.number:
            return []
        server.rows = [held_beside(row, theirs) for row, theirs in zip(server.rows, self.rows)]
        server.epoch = max(server.epoch, self.epoch)
        server.quiet = max(server.quiet, self.quiet)
        if server.blank == 1:
            # What it promised ahead of the loss of its disk must have ended first.
            server.quiet = max(server.quiet, world.now + world.lead)
        server.waits = 0
        server.blank = 0
        return []


class Hello:
    def __init__(self, to, number, blank):
        self.to = to
        self.number = number
        self.blank = blank

    def shown(self):
        return [6, self.to, self.number, self.blank]

    def handle(self, world):
        server = world.servers[self.to]
        if server.on == 0 or server.blank == 1:
            return []
        if self.blank == 1 and server.epoch < self.number:
            server.epoch = self.number
            server.rows = [stamped_anew(row, self.number) for row in server.rows]
        server.alone = NONE
        return [Table(partner_of(self.to), self.number, server)]
