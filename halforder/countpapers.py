"""Count papers."""

from halforder.closures import is_row
from halforder.counting import Ways
from halforder.joins import only


# The names left that may stand next are just those that none of them is ahead of.
def first_rule(ways, left, numbers):
    return ("first", tuple([numbers[left - ways.bits[name]] for name in ways.free_names(left)]))


# A row for each set of names that some names ahead may leave: 1,024 of ten names at most. Each one's ways on
# come to be known behind those that it rests on: so in this order rows speak of rows ahead of them alone.
def count_paper(half):
    ways = Ways(half)
    ways.ways_on(ways.full)
    numbers = {}
    rows = []
    for left in ways.known:
        rest = only(half, tuple([name for name in half[0] if ways.bits[name] & left]))
        rule = ("row",) if is_row(rest) else first_rule(ways, left, numbers)
        numbers[left] = len(rows)
        rows.append((rest, rule, ways.known[left]))
    return tuple(rows)
