"""A keeper of sayings, which may be said, taken back, undone and done again."""

from halforder.closures import behind_each, refuse_strangers
from halforder.counting import count
from halforder.errors import Clash, NoHalf, NoMore, NoSaying, TooMany
from halforder.halves import MOST_SAYINGS, are_tale_names, way_by_sayings
from halforder.questions import best


# What is kept at a time is a tuple (kept, following) that is never changed: the sayings with their numbers, rising,
# and the number that the next one gets. So to undo a deed is to go back to the one ahead of it.
class Keeper:
    def __init__(self, names):
        if not isinstance(names, (tuple, list)) or not are_tale_names(tuple(names)):
            raise NoHalf("tale", -1)
        self.names = tuple(names)
        self.now = ((), 0)
        self.past = []
        self.undone = []

    def go_on(self, kept, following):
        self.past.append(self.now)
        self.now = (kept, following)
        self.undone = []

    def say(self, name, other):
        refuse_strangers(self.half(), (name, other))
        back = self.way_kept(other, name)
        if back is not None:
            raise Clash(back)
        kept = self.now[0]
        number = self.now[1]
        if len(kept) >= MOST_SAYINGS:
            raise TooMany("sayings")
        self.go_on(kept + ((number, (name, other)),), number + 1)
        return number

    def take(self, number):
        self.saying(number)
        self.go_on(tuple([entry for entry in self.now[0] if entry[0] != number]), self.now[1])

    def undo(self):
        if len(self.past) == 0:
            raise NoMore("nothing to undo")
        self.undone.append(self.now)
        self.now = self.past.pop()

    def redo(self):
        if len(self.undone) == 0:
            raise NoMore("nothing to do again")
        self.past.append(self.now)
        self.now = self.undone.pop()

    def numbers(self):
        return tuple([entry[0] for entry in self.now[0]])

    def saying(self, number):
        for entry in self.now[0]:
            if entry[0] == number:
                return entry[1]
        raise NoSaying(number)

    def half(self):
        return (self.names, tuple([entry[1] for entry in self.now[0]]))

    def many(self):
        return count(self.half())

    def best(self):
        return best(self.half())

    def knows(self, name, other):
        refuse_strangers(self.half(), (name, other))
        reach = behind_each(self.half())
        if other in reach[name]:
            return True
        return False if name in reach[other] or name == other else None

    # By the numbers of sayings kept: () from a name to itself, None where none leads there.
    def way_kept(self, name, other):
        way = way_by_sayings(self.half()[1], name, other)
        if way is None:
            return None
        return tuple([self.now[0][place][0] for place in way])

    def lead(self, name, other):
        refuse_strangers(self.half(), (name, other))
        return None if name == other else self.way_kept(name, other)
