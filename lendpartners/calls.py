"""What each call that may change a world does and answers, when its numbers are within their ranges.

A call answers a list: 0 and what it tells, or a refusal, the document's
number below 0 alone. Refusals are looked at before anything is changed.
"""

from lendpartners.messages import Asking, Hello, ShutQuestion, Telling
from lendpartners.rows import NONE, awaits_shut, given, rows_of_nothing, taken_over
from lendpartners.whole import bag_is_full, is_free, next_number, partner_of, works

LAST_TIME = 100000000000000


def tick(world, numbers):
    later = world.now + numbers[0]
    if later > LAST_TIME:
        return [-2]
    world.now = later
    lasting = {}
    for holding, end in world.holdings.items():
        if end > later:
            lasting[holding] = end
    world.holdings = lasting
    return [0, later]


def ask(world, numbers):
    if bag_is_full(world):
        return [-3]
    world.bag.append(Asking(numbers[0], numbers[1], numbers[2], numbers[3]))
    return [0]


def delivered(world, k):
    """Deliver the message at place k; the messages that were put, without the lost ones."""
    message = world.bag.pop(k)
    brought = message.handle(world)
    put = brought[:world.cap - len(world.bag)]
    world.bag.extend(put)
    return put


def deliver(world, numbers):
    put = delivered(world, numbers[0])
    answer = [0, len(put)]
    for message in put:
        shown = message.shown()
        answer.append(len(shown))
        answer.extend(shown)
    return answer


def lose(world, numbers):
    world.bag.pop(numbers[0])
    return [0]


def double(world, numbers):
    if bag_is_full(world):
        return [-3]
    world.bag.append(world.bag[numbers[0]])
    return [0]


def stop(world, numbers):
    server = world.servers[numbers[0]]
    if server.on == 0:
        return [-4]
    server.on = 0
    server.waits = 0
    server.number = 0
    server.alone = NONE
    return [0]


def start(world, numbers):
    server = world.servers[numbers[0]]
    if server.on == 1:
        return [-4]
    server.on = 1
    server.waits = 1
    server.number = next_number(world)
    return [0, server.number]


def wipe(world, numbers):
    server = world.servers[numbers[0]]
    partner = world.servers[partner_of(numbers[0])]
    if server.on == 1:
        return [-4]
    if partner.on == 0 or partner.waits == 1:
        return [-5]
    server.blank = 1
    server.epoch = 0
    server.quiet = 0
    server.rows = rows_of_nothing(world.size)
    return [0]


def declare(world, numbers):
    server = world.servers[numbers[0]]
    if server.on == 0:
        return [-4]
    if world.servers[partner_of(numbers[0])].on == 1:
        return [-5]
    if server.blank == 1:
        return [-6]
    number = next_number(world)
    server.epoch = number
    server.alone = world.now
    if server.waits == 1:
        server.waits = 0
        server.quiet = max(server.quiet, world.now + world.lead)
        server.rows = [taken_over(row, number) for row in server.rows]
    return [0, number]


def hello(world, numbers):
    server = world.servers[numbers[0]]
    if server.on == 0:
        return [-4]
    if server.waits == 0:
        return [-5]
    if bag_is_full(world):
        return [-3]
    world.bag.append(Hello(partner_of(numbers[0]), server.number, server.blank))
    return [0]


def tell(world, numbers):
    server = world.servers[numbers[0]]
    row = server.rows[numbers[1]]
    if not works(world, server):
        return [-4]
    if row.host == NONE and row.holds == 1:
        return [-5]
    if bag_is_full(world):
        return [-3]
    world.bag.append(Telling(partner_of(numbers[0]), numbers[1], row))
    return [0]


def sweep(world, numbers):
    server = world.servers[numbers[0]]
    if not works(world, server):
        return [-4]
    before = len(world.bag)
    for address, row in enumerate(server.rows):
        if bag_is_full(world):
            break
        if awaits_shut(row, world.now):
            world.bag.append(ShutQuestion(partner_of(numbers[0]), address, row))
    return [0, len(world.bag) - before]


def share(world, numbers):
    server = world.servers[numbers[0]]
    if not works(world, server):
        return [-4]
    before = len(world.bag)
    # Each address that is given puts one telling, so the bag tells how many were given.
    for address in range(world.size - 1, -1, -1):
        if len(world.bag) - before >= numbers[1] or bag_is_full(world):
            break
        row = server.rows[address]
        if row.holds == 1 and is_free(world, server, address):
            row = given(row, server.epoch)
            server.rows[address] = row
            world.bag.append(Telling(partner_of(numbers[0]), address, row))
    return [0, len(world.bag) - before]


def calm(world, numbers):
    count = 0
    while len(world.bag) > 0:
        delivered(world, 0)
        count = count + 1
    return [0, count]


CALLS = {
    1: tick, 2: ask, 3: deliver, 4: lose, 5: double, 6: stop, 7: start, 8: wipe, 9: declare, 10: hello,
    11: tell, 12: sweep, 13: share, 20: calm,
}


def done(world, place, numbers):
    return CALLS[place](world, numbers)
