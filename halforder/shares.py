"""In how many orders a name stands ahead of another one, and in how many it stands in each place."""

from halforder.closures import refuse_strangers
from halforder.counting import Ways, count


# Those orders are the ones of the half with this saying, too. Where it makes a ring,
# no name of the ring can ever stand next, and none is counted.
def share(half, name, other):
    refuse_strangers(half, (name, other))
    return count((half[0], half[1] + ((name, other),)))


# For the names left, by how many ways they are come to: from those of one place to those of the next.
def one_place_on(ways, comings):
    found = {}
    for left in comings:
        for name in ways.free_names(left):
            rest = left - ways.bits[name]
            found[rest] = found.get(rest, 0) + comings[left]
    return found


# How many orders have the name next: each way there is, multiplied by the ways on from it.
def ways_by(ways, comings, name):
    here = [left for left in comings if name in ways.free_names(left)]
    return sum([comings[left] * ways.ways_on(left - ways.bits[name]) for left in here])


def places(half, name):
    refuse_strangers(half, (name,))
    ways = Ways(half)
    comings = {ways.full: 1}
    found = []
    while len(found) < len(half[0]):
        found.append(ways_by(ways, comings, name))
        comings = one_place_on(ways, comings)
    return tuple(found)


def height(half, name):
    return sum([place * many for place, many in enumerate(places(half, name))])
