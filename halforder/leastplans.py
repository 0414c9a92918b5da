"""Least plans: no plan is less deep, and a bound paper shows it."""

from halforder.boundchecker import two_to
from halforder.closures import untold
from halforder.counting import count
from halforder.countpapers import CountRows
from halforder.errors import TooMany
from halforder.joins import thinned
from halforder.orders import all_orders

MOST_PLANNED = 60


# The sum of the bits of those orders in which the one of the pair stands ahead of the other.
def bits_with(orders, pair):
    found = 0
    bit = 1
    for order in orders:
        if order.index(pair[0]) < order.index(pair[1]):
            found = found + bit
        bit = bit * 2
    return found


def how_many_bits(bits):
    found = 0
    rest = bits
    while rest > 0:
        rest = rest & (rest - 1)
        found = found + 1
    return found


# All halves that answers lead to are kept by their orders, as sums of the bits of these:
# halves alike have the same orders, however they were come to.
class Search:
    def __init__(self, start):
        self.start = start
        self.orders = all_orders(start)
        self.full = two_to(len(self.orders)) - 1
        self.pairs = untold(start)
        self.ones = [bits_with(self.orders, pair) for pair in self.pairs]
        self.plans = {}
        self.leasts = {}

    # For each pair that is untold by these orders its number and both answers' orders, as they rise.
    def askings(self, bits):
        parts = [(number, bits & ones, bits - (bits & ones)) for number, ones in enumerate(self.ones)]
        return [part for part in parts if part[1] > 0 and part[2] > 0]

    # A plan of these orders that is at most so deep, None where there is none.
    def plan_within(self, bits, depth):
        if how_many_bits(bits) > two_to(depth) or self.leasts.get(bits, 0) > depth:
            return None
        if bits not in self.plans or self.plans[bits][0] > depth:
            plan = self.searched_plan(bits, depth)
            if plan is None:
                self.leasts[bits] = depth + 1
                return None
            self.plans[bits] = (depth, plan)
        return self.plans[bits][1]

    def searched_plan(self, bits, depth):
        parts = self.askings(bits)
        if len(parts) == 0:
            return ("end", self.orders[bits.bit_length() - 1])
        for part in parts:
            plan = self.asking_plan(part, depth)
            if plan is not None:
                return plan
        return None

    def asking_plan(self, part, depth):
        first = self.plan_within(part[1], depth - 1)
        if first is None:
            return None
        second = self.plan_within(part[2], depth - 1)
        if second is None:
            return None
        pair = self.pairs[part[0]]
        return ("ask", pair[0], pair[1], first, second)

    # A half that has just these orders: with one pair for each that stands one way about in all of them.
    def half_of(self, bits):
        more = [pair for pair, ones in zip(self.pairs, self.ones) if bits & ones == bits]
        more.extend([(pair[1], pair[0]) for pair, ones in zip(self.pairs, self.ones) if bits & ones == 0])
        return thinned(self.start[0], self.start[1] + tuple(more))


# The rows of a bound paper, each half and number just once.
class BoundRows:
    def __init__(self, search):
        self.search = search
        self.counts = CountRows()
        self.rows = []
        self.known = {}

    # The number of the row that tells of these orders that each plan is so deep at least.
    def bound_row(self, bits, least):
        if (bits, least) not in self.known:
            rule = self.rule_for(bits, least)
            self.known[(bits, least)] = len(self.rows)
            self.rows.append((self.search.half_of(bits), least, rule))
        return self.known[(bits, least)]

    def rule_for(self, bits, least):
        if least == 0:
            return ("none",)
        if how_many_bits(bits) > two_to(least - 1):
            return ("many", self.counts.row_of(self.search.half_of(bits)))
        return ("asks", tuple([self.answer_for(part, least - 1) for part in self.search.askings(bits)]))

    # The side whose plans are all so deep at least: where both are, the one with more orders.
    def answer_for(self, part, least):
        sides = [0, 1] if how_many_bits(part[1]) >= how_many_bits(part[2]) else [1, 0]
        fit = [side for side in sides if self.search.plan_within(part[1 + side], least - 1) is None]
        return (fit[0], self.bound_row(part[1 + fit[0]], least))


def least_plan(half):
    if count(half) > MOST_PLANNED:
        raise TooMany("orders")
    search = Search(half)
    depth = 0
    while search.plan_within(search.full, depth) is None:
        depth = depth + 1
    bounds = BoundRows(search)
    bounds.bound_row(search.full, depth)
    return (depth, search.plan_within(search.full, depth), (tuple(bounds.counts.rows), tuple(bounds.rows)))
