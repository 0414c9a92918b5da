"""Plans of questions: walked by an order, measured, and made of best questions."""

from halforder.counting import count
from halforder.errors import TooMany
from halforder.joins import said
from halforder.orders import MOST_LISTED, order_of, refuse_no_order
from halforder.questions import best


def answers(half, plan, order):
    refuse_no_order(half, order)
    told = []
    here = plan
    while here[0] == "ask":
        one = here[1]
        other = here[2]
        if order.index(one) < order.index(other):
            told.append((one, other))
            here = here[3]
        else:
            told.append((other, one))
            here = here[4]
    return tuple(told)


# The steps of a plan that so many askings lead to.
def steps_from(plan, askings):
    if plan[0] == "end":
        return askings
    return steps_from(plan[3], askings + 1) + steps_from(plan[4], askings + 1)


def steps(plan):
    return steps_from(plan, 0)


def planned_on(half):
    question = best(half)
    if question is None:
        return ("end", order_of(half, 0))
    one = question[0][0]
    other = question[0][1]
    return ("ask", one, other, planned_on(said(half, one, other)), planned_on(said(half, other, one)))


def planned(half):
    if count(half) > MOST_LISTED:
        raise TooMany("orders")
    return planned_on(half)
