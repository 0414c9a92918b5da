"""Layers of a half, and its longest chains."""

from halforder.closures import behind_each


def has_none_ahead(reach, name, names):
    return not any([name in reach[one] for one in names])


# Each layer is what has none ahead among the names that no earlier layer has.
def layers(half):
    reach = behind_each(half)
    left = list(half[0])
    found = []
    while len(left) > 0:
        layer = [name for name in left if has_none_ahead(reach, name, left)]
        found.append(tuple(layer))
        left = [name for name in left if name not in layer]
    return tuple(found)


# From the last layer back: each name of a layer has one of the layer below ahead of it.
def longest(half):
    reach = behind_each(half)
    chain = []
    for layer in reversed(layers(half)):
        fitting = [name for name in layer if len(chain) == 0 or chain[0] in reach[name]]
        chain.insert(0, fitting[0])
    return tuple(chain)
