"""Tales, the rings in them, and halves: tales without a ring."""

from halforder.errors import NoHalf
from halforder.names import are_unlike_names

MOST_NAMES = 10
MOST_SAYINGS = 60


def are_tale_names(thing):
    return are_unlike_names(thing) and len(thing) <= MOST_NAMES


def is_saying(thing, names):
    # The names are right ones by now, so what is equal to one of them is a name, too.
    return isinstance(thing, tuple) and len(thing) == 2 and thing[0] in names and thing[1] in names


# Whether a thing is a tale but for the single sayings, which are refused by their numbers.
def is_tale_frame(thing):
    if not isinstance(thing, tuple) or len(thing) != 2:
        return False
    if not are_tale_names(thing[0]):
        return False
    return isinstance(thing[1], tuple) and len(thing[1]) <= MOST_SAYINGS


def first_wrong_saying(tale):
    for number, thing in enumerate(tale[1]):
        if not is_saying(thing, tale[0]):
            return number
    return None


def is_tale(thing):
    return is_tale_frame(thing) and first_wrong_saying(thing) is None


# A shortest way, so no name is come to twice on it: () from a name to itself, None where none leads there.
def way_by_sayings(sayings, start, goal):
    ways = {start: ()}
    waiting = [start]
    while len(waiting) > 0:
        name = waiting.pop(0)
        for number, saying in enumerate(sayings):
            if saying[0] == name and saying[1] not in ways:
                ways[saying[1]] = ways[name] + (number,)
                waiting.append(saying[1])
    return ways.get(goal)


# The ring's last number is that of the first saying that makes a ring with those ahead of it: right_half tells it.
def ring(tale):
    sayings = tale[1]
    for number, saying in enumerate(sayings):
        back = way_by_sayings(sayings[:number], saying[1], saying[0])
        if back is not None:
            return back + (number,)
    return None


def is_half(thing):
    return is_tale(thing) and ring(thing) is None


def right_half(thing):
    if not is_tale_frame(thing):
        raise NoHalf("tale", -1)
    wrong = first_wrong_saying(thing)
    if wrong is not None:
        raise NoHalf("saying", wrong)
    found = ring(thing)
    if found is not None:
        raise NoHalf("ring", found[-1])
    return True
