"""The checker of bound papers: it looks at them row by row, the rows of counts first."""

from halforder.closures import alike, behind_each, untold_of
from halforder.countchecker import rows_fault
from halforder.errors import NoBound
from halforder.kinds import is_tuple_of, is_whole
from halforder.reaches import reach_of, reach_said

MOST_BOUND_ROWS = 6000
MOST_LEAST = 200


# 2 * 2 * .. so many times: a plan so deep has so many ends at most, since each asking makes two out of one.
def two_to(times):
    found = 1
    for step in range(times):
        found = found * 2
    return found


def is_answer(thing):
    return is_tuple_of(thing, 2) and is_whole(thing[0]) and thing[0] in (0, 1) and is_whole(thing[1])


def is_rule(thing):
    if is_tuple_of(thing, 1):
        return thing[0] == "none"
    if not is_tuple_of(thing, 2):
        return False
    if thing[0] == "many":
        return is_whole(thing[1])
    return thing[0] == "asks" and isinstance(thing[1], tuple) and all([is_answer(answer) for answer in thing[1]])


def is_row_frame(thing):
    return is_tuple_of(thing, 3) and is_whole(thing[1]) and 0 <= thing[1] <= MOST_LEAST and is_rule(thing[2])


# What the rows of a bound paper are held against: the rows of counts, which are right, and those rows that are done.
class Looked:
    def __init__(self, counts):
        self.counts = counts
        self.count_reaches = [behind_each(row[0]) for row in counts]
        self.leasts = []
        self.reaches = []

    def refs_fit(self, rule):
        if rule[0] == "none":
            return True
        if rule[0] == "many":
            return 0 <= rule[1] < len(self.counts)
        return all([0 <= answer[1] < len(self.reaches) for answer in rule[1]])

    def asks_fit(self, reach, told):
        pairs = untold_of(reach)
        if len(pairs) == 0 or len(pairs) != len(told):
            return False
        return all([self.answer_fits(reach, pair, answer) for pair, answer in zip(pairs, told)])

    def answer_fits(self, reach, pair, answer):
        ahead = pair[answer[0]]
        return self.reaches[answer[1]] == reach_said(reach, ahead, pair[1 - answer[0]])

    def halves_fit(self, reach, rule):
        if rule[0] == "none":
            return True
        if rule[0] == "many":
            return self.count_reaches[rule[1]] == reach
        return self.asks_fit(reach, rule[1])

    def least_fits(self, least, rule):
        if rule[0] == "none":
            return least == 0
        if least == 0:
            return False
        if rule[0] == "many":
            return self.counts[rule[1]][2] > two_to(least - 1)
        return all([self.leasts[answer[1]] >= least - 1 for answer in rule[1]])

    # The word that is due of the next row, or None: then it is done.
    def word_due(self, row):
        reach = reach_of(row[0]) if is_row_frame(row) else None
        if reach is None:
            return "row"
        if not self.refs_fit(row[2]):
            return "ref"
        if not self.halves_fit(reach, row[2]):
            return "half"
        if not self.least_fits(row[1], row[2]):
            return "least"
        self.leasts.append(row[1])
        self.reaches.append(reach)
        return None


def is_bound_frame(thing):
    if not is_tuple_of(thing, 2) or not isinstance(thing[0], tuple) or not isinstance(thing[1], tuple):
        return False
    return len(thing[0]) <= MOST_BOUND_ROWS and 1 <= len(thing[1]) <= MOST_BOUND_ROWS


def lets_bound(half, paper):
    if not is_bound_frame(paper):
        raise NoBound("shape", -1)
    fault = rows_fault(paper[0])
    if fault is not None:
        raise NoBound("count", fault[1])
    rows = paper[1]
    looked = Looked(paper[0])
    for place, row in enumerate(rows):
        word = looked.word_due(row)
        if word is not None:
            raise NoBound(word, place)
    if not alike(rows[-1][0], half):
        raise NoBound("last", len(rows) - 1)
    return rows[-1][1]
