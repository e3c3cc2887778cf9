"""The whole that is played: the world, its two servers, and what is asked of them."""

from lendpartners.rows import NONE, first_rows, is_kept


class Server:
    def __init__(self, rows):
        self.on = 1
        self.waits = 0
        self.number = 0
        self.alone = NONE
        self.blank = 0
        self.epoch = 0
        self.quiet = 0
        self.rows = rows


class World:
    """The holdings are a dict: a pair (host, address) and the holding's end."""

    def __init__(self, size, lead, cap):
        self.now = 0
        self.size = size
        self.lead = lead
        self.cap = cap
        self.book = 0
        self.bag = []
        self.holdings = {}
        self.servers = [Server(first_rows(0, size)), Server(first_rows(1, size))]


def partner_of(server):
    return 1 - server


def next_number(world):
    world.book = world.book + 1
    return world.book


def bag_is_full(world):
    return len(world.bag) >= world.cap


def works(world, server):
    return server.on == 1 and server.waits == 0 and server.quiet <= world.now


def may_go_alone(world, server):
    return server.alone != NONE and server.alone + world.lead <= world.now


def is_free(world, server, address):
    row = server.rows[address]
    if row.mine > world.now:
        return False
    if row.holds == 1 and (row.host == NONE or row.pshut == 1):
        return True
    return may_go_alone(world, server) and row.heard <= world.now


def kept_address(server, host, want):
    """The address whose row is kept for the host, want before the least; NONE if there is none."""
    if want != NONE and is_kept(server.rows[want], host):
        return want
    for address, row in enumerate(server.rows):
        if is_kept(row, host):
            return address
    return NONE


def free_address(world, server, want):
    """The address that is free, want before the least; NONE if there is none."""
    if want != NONE and is_free(world, server, want):
        return want
    for address in range(world.size):
        if is_free(world, server, address):
            return address
    return NONE
