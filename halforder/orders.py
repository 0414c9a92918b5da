"""Orders of a half, one by one and all of them, and their numbers."""

from halforder.counting import Ways, count
from halforder.errors import NoOrder, NoPlace, TooMany

MOST_LISTED = 720


# As many things as names, and each name among them: so each stands there just once, and nothing else does.
def is_order(half, thing):
    if not isinstance(thing, tuple) or len(thing) != len(half[0]):
        return False
    if not all([name in thing for name in half[0]]):
        return False
    return all([thing.index(saying[0]) < thing.index(saying[1]) for saying in half[1]])


def refuse_no_order(half, thing):
    if not is_order(half, thing):
        raise NoOrder("no order of the half")


def orders_on(ways, left):
    if left == 0:
        return [()]
    found = []
    for name in ways.free_names(left):
        found.extend([(name,) + rest for rest in orders_on(ways, left - ways.bits[name])])
    return found


def all_orders(half):
    ways = Ways(half)
    if ways.ways_on(ways.full) > MOST_LISTED:
        raise TooMany("orders")
    return orders_on(ways, ways.full)


# All orders that go on with one name lie ahead of those that go on with the next one: whole heaps are passed by.
# There are more orders on than the number, so one of the heaps has it.
def order_on(ways, left, number):
    if left == 0:
        return ()
    still = number
    for name in ways.free_names(left):
        rest = left - ways.bits[name]
        if still < ways.ways_on(rest):
            return (name,) + order_on(ways, rest, still)
        still = still - ways.ways_on(rest)


def order_of(half, number):
    ways = Ways(half)
    if number < 0 or number >= ways.ways_on(ways.full):
        raise NoPlace(number)
    return order_on(ways, ways.full, number)


def number_of(half, order):
    refuse_no_order(half, order)
    ways = Ways(half)
    left = ways.full
    number = 0
    for name in order:
        free = ways.free_names(left)
        passed = free[:free.index(name)]
        number = number + sum([ways.ways_on(left - ways.bits[other]) for other in passed])
        left = left - ways.bits[name]
    return number


def next_order(half, order):
    number = number_of(half, order) + 1
    if number == count(half):
        return None
    return order_of(half, number)
