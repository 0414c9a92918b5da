"""The checker of plans: it looks at each plan ahead of those in it."""

from halforder.closures import behind_each
from halforder.errors import NoPlan
from halforder.kinds import is_tuple_of
from halforder.reaches import are_two_untold, is_row_of, order_of_row, reach_said


def is_asking(thing):
    if not is_tuple_of(thing, 5) or thing[0] != "ask":
        return False
    return isinstance(thing[1], str) and isinstance(thing[2], str)


def is_end(thing):
    return is_tuple_of(thing, 2) and thing[0] == "end" and isinstance(thing[1], tuple)


# The word that is due of a plan, or None; those in it are not looked at.
def word_due(reach, plan):
    if is_asking(plan):
        return None if are_two_untold(reach, plan[1], plan[2]) else "told"
    if not is_end(plan):
        return "shape"
    return None if is_row_of(reach) and plan[1] == order_of_row(reach) else "end"


# Each asking tells two names more: so plans are never come to deeper than there are pairs of names.
def depth_on(reach, plan, path):
    word = word_due(reach, plan)
    if word is not None:
        raise NoPlan(word, path)
    if plan[0] == "end":
        return 0
    first = depth_on(reach_said(reach, plan[1], plan[2]), plan[3], path + (0,))
    second = depth_on(reach_said(reach, plan[2], plan[1]), plan[4], path + (1,))
    return 1 + max(first, second)


def lets_plan(half, plan):
    return depth_on(behind_each(half), plan, ())
