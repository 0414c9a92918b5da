"""Halves put together, turned about, lessened, called otherwise and said more."""

from halforder.closures import bare, closed, refuse_strangers
from halforder.errors import Clash, NoJoin
from halforder.halves import MOST_NAMES, way_by_sayings
from halforder.names import are_unlike_names


# Bare pairs alone as sayings: of ten names there are 25 at most, however many sayings they are drawn from.
def thinned(names, sayings):
    return (names, bare((names, sayings)))


def joined_names(one, other):
    if any([name in other[0] for name in one[0]]):
        raise NoJoin("names")
    if len(one[0]) + len(other[0]) > MOST_NAMES:
        raise NoJoin("many")
    return one[0] + other[0]


def above(one, other):
    names = joined_names(one, other)
    between = []
    for name in one[0]:
        between.extend([(name, under) for under in other[0]])
    return thinned(names, one[1] + other[1] + tuple(between))


def beside(one, other):
    return thinned(joined_names(one, other), one[1] + other[1])


def turned(half):
    return thinned(half[0], tuple([(saying[1], saying[0]) for saying in half[1]]))


# All pairs are looked at, not the sayings alone: names may be ahead through one that is left out.
def only(half, names):
    refuse_strangers(half, names)
    left = tuple([name for name in half[0] if name in names])
    return thinned(left, tuple([pair for pair in closed(half) if pair[0] in left and pair[1] in left]))


def without(half, name):
    refuse_strangers(half, (name,))
    return only(half, tuple([other for other in half[0] if other != name]))


def called(half, names):
    if not are_unlike_names(names) or len(names) != len(half[0]):
        raise NoJoin("names")
    new = dict(zip(half[0], names))
    return thinned(names, tuple([(new[saying[0]], new[saying[1]]) for saying in half[1]]))


def said(half, name, other):
    refuse_strangers(half, (name, other))
    back = way_by_sayings(half[1], other, name)
    if back is not None:
        raise Clash((other,) + tuple([half[1][number][1] for number in back]))
    return thinned(half[0], half[1] + ((name, other),))
