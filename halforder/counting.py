"""How many orders a half has."""

from halforder.closures import behind_each


def bits_of(names):
    bits = {}
    bit = 1
    for name in names:
        bits[name] = bit
        bit = bit * 2
    return bits


# For each name the sum of the bits of those that are ahead of it.
def bits_ahead(half, bits):
    reach = behind_each(half)
    found = {}
    for name in half[0]:
        found[name] = sum([bits[one] for one in half[0] if name in reach[one]])
    return found


# In how many ways the names that are left may go on. These are kept as the sum of their bits:
# however the others came to stand, the same names left are counted just once.
class Ways:
    def __init__(self, half):
        self.names = half[0]
        self.bits = bits_of(half[0])
        self.ahead = bits_ahead(half, self.bits)
        self.full = sum(self.bits.values())
        self.known = {0: 1}

    # Those of the names left that may stand next, in the half's order.
    def free_names(self, left):
        return [name for name in self.names if self.bits[name] & left and not self.ahead[name] & left]

    def ways_on(self, left):
        if left not in self.known:
            self.known[left] = sum([self.ways_on(left - self.bits[name]) for name in self.free_names(left)])
        return self.known[left]


def count(half):
    ways = Ways(half)
    return ways.ways_on(ways.full)
