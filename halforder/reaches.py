"""Who is ahead of whom, as the checkers keep it: for each name a dict of those behind it, told by closures.

Two halves are alike where these are equal. None is ever changed: each one that is drawn from others is another one.
"""

from halforder.closures import are_untold, behind_each
from halforder.halves import is_tale


# None of what is no half: in a ring a name is behind itself.
def reach_of(thing):
    if not is_tale(thing):
        return None
    reach = behind_each(thing)
    if any([name in reach[name] for name in reach]):
        return None
    return reach


def are_two_untold(reach, one, other):
    return one in reach and other in reach and one != other and are_untold(reach, one, other)


# Without a ring each pair is told one way about at most: so all are told where as many are told as there are.
def is_row_of(reach):
    return 2 * sum([len(reach[name]) for name in reach]) == len(reach) * (len(reach) - 1)


# The one order of a row: each name has one more behind it than the next.
def order_of_row(reach):
    return tuple(sorted(reach, key=lambda name: -len(reach[name])))


def reach_said(reach, one, other):
    more = dict(reach[other])
    more[other] = True
    found = {}
    for name in reach:
        found[name] = dict(reach[name])
        if name == one or one in reach[name]:
            found[name].update(more)
    return found


def reach_without(reach, name):
    left = [other for other in reach if other != name]
    return dict([(one, dict([(other, True) for other in left if other in reach[one]])) for one in left])


def reach_beside(one, other):
    found = dict(one)
    found.update(other)
    return found


def reach_above(one, other):
    found = dict(other)
    for name in one:
        found[name] = dict([(under, True) for under in list(one[name]) + list(other)])
    return found


def reach_turned(reach):
    return dict([(name, dict([(one, True) for one in reach if name in reach[one]])) for name in reach])


def reach_called(reach, names):
    new = dict(zip(reach, names))
    return dict([(new[one], dict([(new[other], True) for other in reach[one]])) for one in reach])
