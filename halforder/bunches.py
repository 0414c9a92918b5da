"""Bunches of a half, of which no two names are told, and covers by chains."""

from halforder.closures import are_untold, behind_each


def no_two_told(reach, names):
    for place, one in enumerate(names):
        if not all([are_untold(reach, one, other) for other in names[place + 1:]]):
            return False
    return True


# Things are held against names by == alone, as not each plain thing can be a dict's key.
def is_bunch(half, thing):
    if not isinstance(thing, tuple):
        return False
    if thing != tuple([name for name in half[0] if name in thing]):
        return False
    return no_two_told(behind_each(half), thing)


def is_chain(names, reach, thing):
    if not isinstance(thing, tuple) or len(thing) == 0:
        return False
    if not all([name in names for name in thing]):
        return False
    return all([other in reach[one] for one, other in zip(thing, thing[1:])])


def is_cover(half, thing):
    if not isinstance(thing, tuple):
        return False
    reach = behind_each(half)
    standing = []
    for chain in thing:
        if not is_chain(half[0], reach, chain):
            return False
        standing.extend(chain)
    return sorted(standing) == sorted(half[0])


# The first name is in such a bunch or it isn't: the wider one of both is taken.
def widest_of(reach, names):
    if len(names) == 0:
        return ()
    rest = names[1:]
    untold_rest = tuple([other for other in rest if are_untold(reach, names[0], other)])
    found = [names[:1] + widest_of(reach, untold_rest), widest_of(reach, rest)]
    return max(found, key=len)


def widest(half):
    return widest_of(behind_each(half), half[0])


# Whether the one gets a name to stand right behind it; the leader that has this one now must then find another.
def finds_follower(reach, one, leaders, tried):
    for other in reach[one]:
        if other not in tried:
            tried[other] = True
            if other not in leaders or finds_follower(reach, leaders[other], leaders, tried):
                leaders[other] = one
                return True
    return False


def chain_from(followers, name):
    chain = [name]
    while chain[-1] in followers:
        chain.append(followers[chain[-1]])
    return tuple(chain)


# A cover has as many chains as there are names without a leader: so the most followers make the fewest chains.
def cover(half):
    reach = behind_each(half)
    leaders = {}
    for one in half[0]:
        finds_follower(reach, one, leaders, {})
    followers = dict([(leaders[other], other) for other in leaders])
    return tuple([chain_from(followers, name) for name in half[0] if name not in leaders])
