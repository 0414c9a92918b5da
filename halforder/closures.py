"""Who is ahead of whom by a half."""

from halforder.errors import NoName


def refuse_strangers(half, asked):
    for name in asked:
        if name not in half[0]:
            raise NoName(name)


# For each name a dict of those behind it. Once a middle name is done, all ways are found that lead
# through it and the middle names ahead of it alone; so each one needs to be the middle just once.
def behind_each(half):
    names = half[0]
    reach = dict([(name, {}) for name in names])
    for saying in half[1]:
        reach[saying[0]][saying[1]] = True
    for middle in names:
        for name in names:
            if middle in reach[name]:
                reach[name].update(reach[middle])
    return reach


def is_ahead(half, name, other):
    refuse_strangers(half, (name, other))
    return other in behind_each(half)[name]


def ahead_of(half, name):
    refuse_strangers(half, (name,))
    reach = behind_each(half)
    return tuple([one for one in half[0] if name in reach[one]])


def behind(half, name):
    refuse_strangers(half, (name,))
    reach = behind_each(half)
    return tuple([other for other in half[0] if other in reach[name]])


def closed(half):
    reach = behind_each(half)
    pairs = []
    for one in half[0]:
        pairs.extend([(one, other) for other in half[0] if other in reach[one]])
    return tuple(pairs)


def has_third_between(reach, pair):
    return any([pair[1] in reach[third] for third in reach[pair[0]]])


def bare(half):
    reach = behind_each(half)
    return tuple([pair for pair in closed(half) if not has_third_between(reach, pair)])


def are_untold(reach, one, other):
    return other not in reach[one] and one not in reach[other]


# The names of a reach come in the half's order, and so the pairs rise.
def untold_of(reach):
    names = list(reach)
    pairs = []
    for place, one in enumerate(names):
        pairs.extend([(one, other) for other in names[place + 1:] if are_untold(reach, one, other)])
    return tuple(pairs)


def untold(half):
    return untold_of(behind_each(half))


def is_row(half):
    return len(untold(half)) == 0


# Dicts are equal whatever the order in which their keys came: so the order of names doesn't count.
def alike(one, other):
    return behind_each(one) == behind_each(other)
