"""The checker of count papers: it looks at them row by row, each by the rows ahead of it alone."""

from halforder.closures import alike
from halforder.errors import NoPaper
from halforder.kinds import is_tuple_of, is_whole
from halforder.names import are_unlike_names
from halforder.reaches import are_two_untold, is_row_of, reach_above, reach_beside, reach_called, reach_of
from halforder.reaches import reach_said, reach_turned, reach_without

MOST_ROWS = 1200

# What stands behind a rule's word: a name of the row's half, unlike names, a row's number, or a tuple of such numbers.
RULES = {
    "row": (),
    "ask": ("name", "name", "number", "number"),
    "last": ("numbers",),
    "first": ("numbers",),
    "above": ("number", "number"),
    "beside": ("number", "number"),
    "turned": ("number",),
    "called": ("names", "number"),
}


def fits_kind(kind, thing, reach):
    if kind == "number":
        return is_whole(thing)
    if kind == "numbers":
        return isinstance(thing, tuple) and all([is_whole(ref) for ref in thing])
    if kind == "names":
        return are_unlike_names(thing)
    # Only a text can be looked for in a dict without harm: lists and dicts can't.
    return isinstance(thing, str) and thing in reach


def is_rule(thing, reach):
    if not isinstance(thing, tuple) or len(thing) == 0:
        return False
    if not isinstance(thing[0], str) or thing[0] not in RULES:
        return False
    kinds = RULES[thing[0]]
    if len(thing) != 1 + len(kinds):
        return False
    return all([fits_kind(kind, part, reach) for kind, part in zip(kinds, thing[1:])])


# The numbers of rows that a rule speaks of, in its order.
def refs_of(rule):
    refs = []
    for kind, part in zip(RULES[rule[0]], rule[1:]):
        if kind == "number":
            refs.append(part)
        if kind == "numbers":
            refs.extend(part)
    return refs


# The names that the rules last and first take off, in the half's order.
def ends_of(word, reach):
    if word == "last":
        return [name for name in reach if len(reach[name]) == 0]
    return [name for name in reach if not any([name in reach[one] for one in reach])]


def fits_ask(reach, rule, spoken):
    one = rule[1]
    other = rule[2]
    if not are_two_untold(reach, one, other):
        return False
    return spoken[0] == reach_said(reach, one, other) and spoken[1] == reach_said(reach, other, one)


def fits_ends(reach, rule, spoken):
    ends = ends_of(rule[0], reach)
    if len(reach) == 0 or len(spoken) != len(ends):
        return False
    return all([rest == reach_without(reach, name) for name, rest in zip(ends, spoken)])


# More than ten names together need no look: the row's half has ten at most, so it is not alike.
def fits_joined(reach, rule, spoken):
    one = spoken[0]
    other = spoken[1]
    if len(one) == 0 or len(other) == 0 or any([name in other for name in one]):
        return False
    if rule[0] == "above":
        return reach == reach_above(one, other)
    return reach == reach_beside(one, other)


# Whether all that a rule tells is so, but for the number; spoken: the reaches of the rows that it speaks of.
def fits_rule(reach, rule, spoken):
    if rule[0] == "row":
        return is_row_of(reach)
    if rule[0] == "ask":
        return fits_ask(reach, rule, spoken)
    if rule[0] in ("last", "first"):
        return fits_ends(reach, rule, spoken)
    if rule[0] in ("above", "beside"):
        return fits_joined(reach, rule, spoken)
    if rule[0] == "turned":
        return reach == reach_turned(spoken[0])
    return len(rule[1]) == len(spoken[0]) and reach == reach_called(spoken[0], rule[1])


# In how many ways some of many things can be chosen: each step's product is divided without a rest.
def choices(many, some):
    found = 1
    for step in range(some):
        found = found * (many - step) // (step + 1)
    return found


# The number that is due, from the numbers of the rows that the rule speaks of.
def number_due(reach, rule, spoken, numbers):
    if rule[0] == "row":
        return 1
    if rule[0] == "above":
        return numbers[0] * numbers[1]
    if rule[0] == "beside":
        return numbers[0] * numbers[1] * choices(len(reach), len(spoken[0]))
    return sum(numbers)


def is_row_frame(thing):
    return is_tuple_of(thing, 3) and is_whole(thing[2]) and thing[2] >= 0


# The word that is due of a row, or None; reaches: those of the rows ahead of it, which are right.
def word_due(rows, row, reach, reaches):
    if reach is None or not is_rule(row[1], reach):
        return "row"
    refs = refs_of(row[1])
    if any([ref < 0 or ref >= len(reaches) for ref in refs]):
        return "ref"
    spoken = [reaches[ref] for ref in refs]
    if not fits_rule(reach, row[1], spoken):
        return "half"
    if row[2] != number_due(reach, row[1], spoken, [rows[ref][2] for ref in refs]):
        return "number"
    return None


def rows_fault(rows):
    reaches = []
    for place, row in enumerate(rows):
        reach = reach_of(row[0]) if is_row_frame(row) else None
        word = word_due(rows, row, reach, reaches)
        if word is not None:
            return (word, place)
        reaches.append(reach)
    return None


def lets_count(half, paper):
    if not isinstance(paper, tuple) or len(paper) < 1 or len(paper) > MOST_ROWS:
        raise NoPaper("shape", -1)
    fault = rows_fault(paper)
    if fault is not None:
        raise NoPaper(fault[0], fault[1])
    if not alike(paper[-1][0], half):
        raise NoPaper("last", len(paper) - 1)
    return paper[-1][2]
