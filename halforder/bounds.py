"""Numbers that a half's count is no less than, or no greater than."""

from halforder.bunches import is_cover
from halforder.closures import behind_each
from halforder.errors import NoCover
from halforder.layers import layers


def product(numbers):
    found = 1
    for number in numbers:
        found = found * number
    return found


def product_up_to(number):
    return product(list(range(1, number + 1)))


def by_layers(half):
    return product([product_up_to(len(layer)) for layer in layers(half)])


# So many ways there are to shuffle the chains, each kept as it stands: nothing is left over.
def by_cover(half, chains):
    if not is_cover(half, chains):
        raise NoCover("no cover of the half")
    return product_up_to(len(half[0])) // product([product_up_to(len(chain)) for chain in chains])


# Divided downwards from below 0, so that what is left over counts as one more.
def by_behind(half):
    reach = behind_each(half)
    divisor = product([1 + len(reach[name]) for name in half[0]])
    return -(-product_up_to(len(half[0])) // divisor)
