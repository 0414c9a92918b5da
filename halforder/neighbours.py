"""Swaps of neighbours: how far orders are apart, ways between them, and lists of all orders by few swaps."""

from halforder.orders import all_orders, refuse_no_order

MOST_SEARCHED = 12


def pairs_apart(one, other):
    row = [other.index(name) for name in one]
    found = 0
    for place, seat in enumerate(row):
        found = found + len([later for later in row[place + 1:] if later < seat])
    return found


def apart(half, one, other):
    refuse_no_order(half, one)
    refuse_no_order(half, other)
    return pairs_apart(one, other)


def swapped(order, place):
    return order[:place] + (order[place + 1], order[place]) + order[place + 2:]


# Two neighbours that stand otherwise about in the goal are untold, so what comes of their swap is an order, too;
# and two such ones are there in each order but the goal itself.
def step_towards(order, goal):
    place = 0
    while goal.index(order[place]) < goal.index(order[place + 1]):
        place = place + 1
    return swapped(order, place)


def way_between(half, one, other):
    refuse_no_order(half, one)
    refuse_no_order(half, other)
    way = [one]
    while way[-1] != other:
        way.append(step_towards(way[-1], other))
    return tuple(way)


def sides(half):
    orders = all_orders(half)
    odd = sum([pairs_apart(orders[0], order) % 2 for order in orders])
    return (len(orders) - odd, odd)


# A tree's orders by turns: one is listed ahead of all that grow from it, the next ones behind all that grow from them.
# So between two that follow one another there are never more than two others on the way through the tree.
def listed_by_turns(tree, order, goes_ahead):
    found = []
    for grown in tree[order]:
        found.extend(listed_by_turns(tree, grown, not goes_ahead))
    if goes_ahead:
        return [order] + found
    return found + [order]


# Each order but the first grows in the tree from one that is a swap nearer to the first.
def near_list(half):
    orders = all_orders(half)
    tree = dict([(order, []) for order in orders])
    for order in orders[1:]:
        tree[step_towards(order, orders[0])].append(order)
    return listed_by_turns(tree, orders[0], True)


# The first name goes to and fro through the list of the others; while it stands at an end, these make one swap.
def to_and_fro(names):
    if len(names) == 0:
        return [()]
    found = []
    for number, row in enumerate(to_and_fro(names[1:])):
        through = [row[:seat] + names[:1] + row[seat:] for seat in range(len(names))]
        if number % 2 == 1:
            through.reverse()
        found.extend(through)
    return found


def orders_by_one_swap(orders):
    near = {}
    for order in orders:
        swaps = [swapped(order, place) for place in range(len(order) - 1)]
        near[order] = [other for other in swaps if other in orders]
    return near


# Every way on is tried, so that None is told only where no list goes on from these.
def single_list_on(near, begun):
    if len(begun) == len(near):
        return begun
    for order in near[begun[-1]]:
        if order not in begun:
            found = single_list_on(near, begun + [order])
            if found is not None:
                return found
    return None


def searched_single_list(orders):
    near = orders_by_one_swap(orders)
    for order in orders:
        found = single_list_on(near, [order])
        if found is not None:
            return found
    return None


# Each swap goes from one side to the other, so sides that differ by more than 1 leave no list.
def single_list(half):
    parts = sides(half)
    if abs(parts[0] - parts[1]) > 1:
        return ("none",) + parts
    if len(half[1]) == 0:
        return ("list", to_and_fro(half[0]))
    orders = all_orders(half)
    if len(orders) > MOST_SEARCHED:
        return ("open",)
    found = searched_single_list(orders)
    if found is None:
        return ("open",)
    return ("list", found)
