"""What each call that only asks answers; such a call refuses nothing by itself and changes nothing."""

from lendpartners.rows import NONE
from lendpartners.whole import is_free, works


def row_numbers(world, numbers):
    row = world.servers[numbers[0]].rows[numbers[1]]
    return [
        0, row.stamp[0], row.stamp[1], row.holds, row.host, row.mine, row.heard, row.asked, row.acked, row.shut,
        row.pshut,
    ]


def server_numbers(world, numbers):
    server = world.servers[numbers[0]]
    working = 1 if works(world, server) else 0
    return [
        0, server.on, server.waits, working, server.blank, server.epoch, server.quiet, server.number, server.alone,
    ]


def peek(world, numbers):
    return [0] + world.bag[numbers[0]].shown()


def counted(pairs):
    """0, how many pairs there are, and they in the order of their first numbers."""
    answer = [0, len(pairs)]
    for pair in sorted(pairs):
        answer.extend(pair)
    return answer


def who(world, numbers):
    return counted([(holding[0], end) for holding, end in world.holdings.items() if holding[1] == numbers[0]])


def held(world, numbers):
    return counted([(holding[1], end) for holding, end in world.holdings.items() if holding[0] == numbers[0]])


def counts(world, numbers):
    server = world.servers[numbers[0]]
    rights = sum([row.holds for row in server.rows])
    free = len([address for address in range(world.size) if is_free(world, server, address)])
    hosts = len([row for row in server.rows if row.host != NONE])
    return [0, rights, free, hosts]


def state(world, numbers):
    return [0, world.now, len(world.bag), world.book]


QUERIES = {
    14: row_numbers, 15: server_numbers, 16: peek, 17: who, 18: held, 19: counts, 21: state,
}


def is_query(place):
    return place in QUERIES


def told(world, place, numbers):
    return QUERIES[place](world, numbers)
