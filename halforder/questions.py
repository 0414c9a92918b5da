"""The questions of a half: which of two untold names stands ahead, and how evenly this parts the orders."""

from halforder.closures import untold
from halforder.counting import Ways


# For the names left, by how many ways they are come to. Each one's ways on came to be known ahead of those of the
# names it is come to from: so, read backwards, these are all done ahead of it.
def comings_of(ways):
    comings = {ways.full: 1}
    for left in reversed(list(ways.known)):
        for name in ways.free_names(left):
            rest = left - ways.bits[name]
            comings[rest] = comings.get(rest, 0) + comings[left]
    return comings


# For each name a dict: in how many orders it stands ahead of each other one. It does so in those
# in which it stands next while the other one is left.
def shares_of(half):
    ways = Ways(half)
    ways.ways_on(ways.full)
    comings = comings_of(ways)
    found = dict([(one, dict([(other, 0) for other in half[0]])) for one in half[0]])
    for left in ways.known:
        for name in ways.free_names(left):
            rest = left - ways.bits[name]
            many = comings[left] * ways.known[rest]
            for other in half[0]:
                if ways.bits[other] & rest:
                    found[name][other] = found[name][other] + many
    return found


def questions(half):
    shares = shares_of(half)
    return [(pair, (shares[pair[0]][pair[1]], shares[pair[1]][pair[0]])) for pair in untold(half)]


def best(half):
    found = questions(half)
    if len(found) == 0:
        return None
    return max(found, key=lambda question: min(question[1]))
