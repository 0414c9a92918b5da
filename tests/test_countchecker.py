import copy
import itertools
import math
import unittest

import helping
from halforder.countchecker import lets_count, rows_fault
from halforder.errors import NoPaper

EMPTY = (helping.NONE, ("row",), 1)
A = (("a",), ())
B = (("b",), ())
C = (("c",), ())
AB = (("a", "b"), (("a", "b"),))
BA = (("a", "b"), (("b", "a"),))
BOTH = (("b", "a"), ())
VEE = (("c", "a", "b"), (("a", "c"), ("b", "c"), ("a", "c")))
TOP = (("a", "c", "b"), (("c", "b"), ("c", "a")))
ABC = (("c", "b", "a"), (("a", "b"), ("a", "c"), ("b", "c")))
BAC = (("a", "b", "c"), (("b", "a"), ("a", "c")))

BY_ROW = ((ABC, ("row",), 1),)
BY_ASK = ((BAC, ("row",), 1), (ABC, ("row",), 1), (VEE, ("ask", "a", "b", 1, 0), 2))
BY_LAST = (
    EMPTY, (A, ("last", (0,)), 1), (B, ("last", (0,)), 1), (BOTH, ("last", (1, 2)), 2), (VEE, ("last", (3,)), 2),
)
BY_FIRST = (
    EMPTY, (A, ("first", (0,)), 1), (C, ("first", (0,)), 1), (B, ("row",), 1),
    ((("c", "b"), (("b", "c"),)), ("row",), 1),
    ((("c", "a"), (("a", "c"),)), ("first", (2,)), 1), (VEE, ("first", (4, 5)), 2),
)
BY_ABOVE = (
    (A, ("row",), 1), (B, ("row",), 1), (BOTH, ("beside", 0, 1), 2), (C, ("row",), 1), (VEE, ("above", 2, 3), 2),
)
BY_BESIDE = ((AB, ("row",), 1), (C, ("row",), 1), ((("a", "c", "b"), (("a", "b"),)), ("beside", 0, 1), 3))
BY_TURNED = BY_ABOVE + ((TOP, ("turned", 4), 2),)
BY_CALLED = BY_ABOVE + (((("x", "a", "y"), (("y", "a"), ("x", "a"))), ("called", ("a", "y", "x"), 4), 2),)
RIGHT = (BY_ROW, BY_ASK, BY_LAST, BY_FIRST, BY_ABOVE, BY_BESIDE, BY_TURNED, BY_CALLED)


def whole_tuple(thing):
    return type(thing) is tuple and all(helping.whole(part) for part in thing)


def rule_fits_kinds(rule, names):
    if type(rule) is not tuple or not rule or type(rule[0]) is not str:
        return False
    word, rest = rule[0], rule[1:]
    if word == "row":
        return rest == ()
    if word == "ask":
        named = all(type(name) is str and name in names for name in rest[:2])
        return len(rest) == 4 and named and whole_tuple(rest[2:])
    if word in ("last", "first"):
        return len(rest) == 1 and whole_tuple(rest[0])
    if word in ("above", "beside"):
        return len(rest) == 2 and whole_tuple(rest)
    if word == "turned":
        return len(rest) == 1 and whole_tuple(rest)
    return word == "called" and len(rest) == 2 and helping.unlike_names(rest[0]) and helping.whole(rest[1])


def left_without(half, name):
    return (tuple(n for n in half[0] if n != name), {pair for pair in half[1] if name not in pair})


def refs(rule):
    return [ref for part in rule[1:] for ref in (part if whole_tuple(part) else (part,)) if helping.whole(ref)]


def half_and_number(half, rule, spoken):
    """Whether halves are as the rule tells, and the number that is due; spoken: (half, number) of rows spoken of."""
    names, pairs = half
    halves = [row[0] for row in spoken]
    numbers = [row[1] for row in spoken]
    if rule[0] == "row":
        return len(pairs) == math.comb(len(names), 2), 1
    if rule[0] == "ask":
        one, other = rule[1:3]
        if one == other or {(one, other), (other, one)} & pairs:
            return False, None
        sides = [helping.said_more(half, pair) for pair in ((one, other), (other, one))]
        return all(helping.same(*both) for both in zip(halves, sides)), sum(numbers)
    if rule[0] in ("last", "first"):
        side = 0 if rule[0] == "last" else 1
        ends = [name for name in names if all(pair[side] != name for pair in pairs)]
        fits = all(helping.same(told, left_without(half, end)) for told, end in zip(halves, ends))
        return fits and names != () and len(ends) == len(halves), sum(numbers)
    if rule[0] in ("above", "beside"):
        one, other = halves
        if set(one[0]) & set(other[0]) or not one[0] or not other[0] or len(one[0]) + len(other[0]) > 10:
            return False, None
        between = set(itertools.product(one[0], other[0])) if rule[0] == "above" else set()
        ways = 1 if rule[0] == "above" else math.comb(len(names), len(one[0]))
        return helping.same(half, (one[0] + other[0], one[1] | other[1] | between)), math.prod(numbers) * ways
    if rule[0] == "turned":
        return helping.same(half, (halves[0][0], {(b, a) for a, b in halves[0][1]})), numbers[0]
    if len(rule[1]) != len(halves[0][0]):
        return False, None
    new = dict(zip(halves[0][0], rule[1]))
    return helping.same(half, (rule[1], {(new[a], new[b]) for a, b in halves[0][1]})), numbers[0]


def word_by_words(row, done):
    if type(row) is not tuple or len(row) != 3 or not helping.whole(row[2]) or row[2] < 0:
        return "row"
    half = helping.half_by_words(row[0])
    if half is None or not rule_fits_kinds(row[1], half[0]):
        return "row"
    if not all(0 <= ref < len(done) for ref in refs(row[1])):
        return "ref"
    fits, number = half_and_number(half, row[1], [done[ref] for ref in refs(row[1])])
    if not fits:
        return "half"
    return None if number == row[2] else "number"


def fault_by_words(rows):
    done = []
    for place, row in enumerate(rows):
        word = word_by_words(row, done)
        if word is not None:
            return (word, place)
        done.append((helping.half_by_words(row[0]), row[2]))
    return None


class PapersCase(unittest.TestCase):
    def check_word(self, word, row, half, paper):
        refused = helping.refusal(lets_count, half, paper)
        self.assertIsInstance(refused, NoPaper, paper)
        self.assertEqual((refused.word, refused.row), (word, row), paper)
        self.assertIs(type(refused.row), int)

    def check_fault(self, word, row, rows):
        self.assertEqual(rows_fault(rows), (word, row), rows)
        self.assertIs(type(rows_fault(rows)), tuple)
        if 1 <= len(rows) <= 1200:
            self.check_word(word, row, rows[-1][0] if row < len(rows) - 1 else AB, rows)

    def check_last(self, word, done, row):
        """A row behind right rows, and behind it one that is wrong, too: the first fault is told."""
        for more in ((), (None,), (row,)):
            self.assertEqual(rows_fault(tuple(done) + (row,) + more), (word, len(done)), row)

    def check_right(self, half, paper, number):
        self.assertIsNone(rows_fault(paper))
        self.assertEqual(lets_count(half, paper), number)
        self.assertIs(type(lets_count(half, paper)), int)


class TestRightPapers(PapersCase):
    def test_each_rule(self):
        for paper in RIGHT:
            for length in range(1, len(paper) + 1):
                half = paper[length - 1][0]
                self.check_right(half, paper[:length], len(helping.orders(half)))

    def test_any_half_that_is_alike(self):
        for half in (VEE, (("a", "b", "c"), (("b", "c"), ("a", "c"))), (("b", "c", "a"), VEE[1] * 20)):
            for paper in (BY_ASK, BY_LAST, BY_FIRST, BY_ABOVE):
                self.check_right(half, paper, 2)

    def test_rows_told_twice_and_rows_that_nothing_rests_on(self):
        paper = BY_ROW + BY_ROW + (EMPTY, EMPTY, (VEE, ("ask", "b", "a", 5, 4), 2))
        paper = paper[:4] + ((ABC, ("row",), 1), (BAC, ("row",), 1)) + paper[4:]
        self.check_right(VEE, paper, 2)
        self.check_right(VEE, paper + (EMPTY, paper[-1]), 2)
        self.check_right(helping.NONE, paper + (EMPTY,), 1)

    def test_ask_either_way_about(self):
        rows = ((ABC, ("row",), 1), (BAC, ("row",), 1))
        self.check_right(VEE, rows + ((VEE, ("ask", "a", "b", 0, 1), 2),), 2)
        self.check_right(VEE, rows + ((VEE, ("ask", "b", "a", 1, 0), 2),), 2)
        self.check_last("half", rows, (VEE, ("ask", "a", "b", 1, 0), 2))
        self.check_last("half", rows, (VEE, ("ask", "b", "a", 0, 1), 2))

    def test_edges(self):
        self.check_right(helping.NONE, (EMPTY,), 1)
        self.check_right(helping.ONE, ((helping.ONE, ("row",), 1),), 1)
        self.check_right(helping.ROW, ((helping.FULL, ("row",), 1),), 1)
        upside_down = (helping.TEN, tuple(zip(helping.TEN[1:], helping.TEN)))
        self.check_right(upside_down, ((helping.ROW, ("row",), 1), (upside_down, ("turned", 0), 1)), 1)

    def test_called_by_its_own_names(self):
        row = (BOTH, ("called", ("a", "b"), 2), 2)
        self.check_right(BOTH, BY_ABOVE[:3] + (row,), 2)
        none = (helping.NONE, ("called", (), 0), 1)
        self.check_right(helping.NONE, (EMPTY, none), 1)
        self.check_right(helping.NONE, (EMPTY, (helping.NONE, ("turned", 0), 1)), 1)

    def test_ten_names_beside_one_another(self):
        rows = []
        for size, name in enumerate(helping.TEN, start=1):
            rows.append((((name,), ()), ("row",), 1))
            if size > 1:
                rule = ("beside", len(rows) - 2, len(rows) - 1)
                rows.append(((helping.TEN[:size][::-1], ()), rule, math.factorial(size)))
        self.check_right(helping.FREE, tuple(rows), math.factorial(10))
        wrong = rows[:-1] + [rows[-1][:2] + (math.factorial(10) + 1,)]
        self.check_fault("number", 18, tuple(wrong))

    def test_ten_names_above_one_another(self):
        rows = [(((name,), ()), ("row",), 1) for name in helping.TEN]
        for size in range(2, 11):
            rows.append((helping.patterned(helping.TEN[:size], 0, 1), ("above", (size + 7) * (size > 2), size - 1), 1))
        self.check_right(helping.ROW, tuple(rows), 1)

    def test_a_paper_of_1200_rows_and_of_1201(self):
        self.check_right(helping.NONE, (EMPTY,) * 1200, 1)
        self.check_word("shape", -1, helping.NONE, (EMPTY,) * 1201)
        self.check_word("shape", -1, helping.NONE, (None,) * 1201)
        self.assertIsNone(rows_fault((EMPTY,) * 1201))
        self.assertIsNone(rows_fault((EMPTY,) * 7000))
        self.check_word("row", 1199, helping.NONE, (EMPTY,) * 1199 + (None,))
        self.assertEqual(rows_fault((EMPTY,) * 7000 + (None,)), ("row", 7000))
        self.assertEqual(rows_fault((EMPTY,) * 1500 + (EMPTY[:1] + (("turned", 1500), 1),)), ("ref", 1500))
        self.assertIsNone(rows_fault((EMPTY,) * 1500 + (EMPTY[:1] + (("turned", 1499), 1),)))
        self.assertIsNone(rows_fault(()))


class TestShapeAndLast(PapersCase):
    def test_what_is_no_tuple_of_rows(self):
        for thing in (None, True, False, 0, 1, -1, 10 ** 39, "", "row", [], {}, (), list(BY_ROW), {0: BY_ROW[0]}):
            self.check_word("shape", -1, ABC, thing)
        self.check_word("row", 0, ABC, BY_ROW[0])
        self.check_word("row", 0, ABC, (BY_ROW,))

    def test_strange_things(self):
        for thing in helping.STRANGE + (helping.strange_deep(90),):
            word = "row" if isinstance(thing, tuple) and thing else "shape"
            self.check_word(word, 0 if word == "row" else -1, ABC, thing)
            self.check_fault("row", 0, (thing,))
            self.check_fault("row", 1, (EMPTY, thing))

    def test_last(self):
        for half in (helping.NONE, A, BAC, (("a", "b", "d"), (("a", "b"), ("b", "d"))), (ABC[0], ABC[1][:2]), VEE):
            self.check_word("last", 0, half, BY_ROW)
        self.check_word("last", 4, (("c", "a"), ()), BY_LAST)
        self.check_word("last", 2, VEE, BY_LAST[:3])
        self.check_word("last", 1199, A, (EMPTY,) * 1200)

    def test_faults_of_rows_come_ahead_of_last(self):
        self.check_word("number", 0, VEE, ((ABC, ("row",), 2),))
        self.check_word("shape", -1, VEE, list(BY_ROW))


class TestRow(PapersCase):
    def test_rows_of_other_kinds(self):
        for row in (
            None, True, 0, "row", list(EMPTY), {}, (), EMPTY[:2], EMPTY + (1,), EMPTY[::-1], (EMPTY,),
            (list(helping.NONE), ("row",), 1), (([], ()), ("row",), 1), (((), []), ("row",), 1), ((), ("row",), 1),
            (None, ("row",), 1), ((("a", "a"), ()), ("row",), 1), ((("A",), ()), ("row",), 1),
            ((helping.ELEVEN, ()), ("row",), 1), ((helping.TEN, helping.SIXTY_ONE), ("row",), 1),
            ((("a", "b"), (("a", "b"), ("b", "a"))), ("row",), 1), ((("a",), (("a", "a"),)), ("row",), 1),
            ((("a", "b"), (["a", "b"],)), ("row",), 1), ((("a", "b"), (("a", "z"),)), ("row",), 1),
            (helping.NONE, ("row",), True), (helping.NONE, ("row",), None), (helping.NONE, ("row",), "1"),
            (helping.NONE, ("row",), (1,)), (helping.NONE, ("row",), [1]), (helping.NONE, ("row",), -1),
            (helping.NONE, ("row",), -10 ** 39), (helping.NONE, ["row"], 1), (helping.NONE, "row", 1),
        ):
            self.check_last("row", (), row)
            self.check_last("row", BY_LAST, row)

    def test_rules_of_other_kinds(self):
        for rule in (
            None, (), 1, "", ("",), ("rows",), ("ROW",), ("row", 0), ("row", ()), (None,), (True,), (0,), (["row"],),
            (("row",),), ({},), ({"row": 1},), ("turned",), ("turned", 0, 0), ("turned", True), ("turned", False),
            ("turned", None), ("turned", "0"), ("turned", (0,)), ("turned", [0]), ("above", 0), ("above", 0, 1, 2),
            ("above", (0, 1)), ("above", 0, True), ("beside", False, 1), ("beside", 0, "1"), ("beside", 0, None),
            ("last",), ("last", 0), ("last", [0]), ("last", (0, True)), ("last", (None,)), ("last", ((0,),)),
            ("last", (0,), 0), ("last", 0, 1), ("first", {}), ("first", ("0",)), ("first", (False,)), ("first", "0"),
            ("ask", "a", "b", 0), ("ask", "a", "b", 0, 1, 2), ("ask", "a", "z", 0, 1), ("ask", "", "a", 0, 1),
            ("ask", ["a"], "b", 0, 1), ("ask", "a", ("b",), 0, 1), ("ask", "a", {}, 0, 1), ("ask", None, "b", 0, 1),
            ("ask", "a", "b", True, 1), ("ask", "a", "b", 0, False), ("ask", "a", "b", 0, "1"), ("ask", "a", 1, 0, 1),
            ("ask", "a", "b", (0, 1)), ("ask", ("a", "b"), 0, 1), ("called", 0), ("called", ("a",)),
            ("called", ["a", "b", "c"], 0), ("called", "abc", 0), ("called", ("a", "a", "b"), 0),
            ("called", ("a", "b", "C"), 0), ("called", ("a", "b", ""), 0), ("called", ("a", "b", "abcdefghi"), 0),
            ("called", ("a", "b", None), 0), ("called", ("a", "b", ["c"]), 0), ("called", ("a", "b", "c"), True),
            ("called", ("a", "b", "c"), (0,)), ("called", 0, ("a", "b", "c")), ("called", ("a", "b", "c"), 0, 0),
            ("called", {"a": "b"}, 0), ("called", None, 0),
        ):
            self.check_last("row", BY_LAST, (VEE, rule, 2))
            self.check_last("row", BY_LAST, (BOTH, rule, 10 ** 39))

    def test_names_of_the_row_s_own_half(self):
        self.check_last("row", BY_ASK, (BOTH, ("ask", "a", "c", 0, 1), 2))
        self.check_last("row", BY_ASK, (BOTH, ("ask", "c", "a", 9, 9), 2))
        self.check_last("ref", BY_ASK, (BOTH, ("ask", "b", "a", 9, 9), 2))


class TestRef(PapersCase):
    def test_numbers_of_no_rows_ahead(self):
        for ref in (3, 4, 5, -1, -2, -3, 10 ** 39, -10 ** 39):
            for rule in (
                ("ask", "a", "b", ref, 1), ("ask", "a", "b", 1, ref), ("ask", "a", "a", 1, ref), ("last", (ref,)),
                ("last", (0, 1, 2, ref)), ("last", (ref, 0)), ("first", (0, ref)), ("above", ref, 0), ("above", 0, ref),
                ("beside", ref, 0), ("beside", 0, ref), ("turned", ref), ("called", ("a", "b", "c"), ref),
                ("called", (), ref),
            ):
                self.check_last("ref", BY_ASK, (VEE, rule, 2))
                self.check_last("ref", BY_ASK, (ABC, rule, 7))

    def test_the_first_row(self):
        for rule in (("turned", 0), ("last", (0,)), ("above", 0, 0), ("called", ("a",), 0), ("turned", -1)):
            self.check_last("ref", (), (A, rule, 1))
        for word in ("last", "first"):
            self.check_last("half", (), (A, (word, ()), 1))

    def test_rows_behind_are_no_rows_ahead(self):
        paper = (BY_ASK[0], (VEE, ("ask", "a", "b", 2, 0), 2), BY_ASK[1])
        self.check_fault("ref", 1, paper)


class TestHalf(PapersCase):
    def test_row(self):
        for half in (BOTH, VEE, helping.FREE, helping.ZIGZAG, (helping.TEN, helping.ROW[1][:-1])):
            self.check_last("half", (), (half, ("row",), 1))
            self.check_last("half", (), (half, ("row",), 0))

    def test_ask(self):
        rows = ((ABC, ("row",), 1), (BAC, ("row",), 1), (AB, ("row",), 1), (BA, ("row",), 1))
        for one, other in (("a", "a"), ("a", "c"), ("c", "b"), ("c", "c")):
            self.check_last("half", rows, (VEE, ("ask", one, other, 0, 1), 2))
        for refs_told in itertools.product(range(4), repeat=2):
            if refs_told != (0, 1):
                self.check_last("half", rows, (VEE, ("ask", "a", "b") + refs_told, 2))

    def test_last_and_first(self):
        # c alone is ahead of none, a and b have none ahead.
        rows = BY_FIRST[:6] + ((BOTH, ("last", (1, 3)), 2),)
        self.check_right(VEE, rows + ((VEE, ("last", (6,)), 2),), 2)
        self.check_right(VEE, rows + ((VEE, ("first", (4, 5)), 2),), 2)
        for wrong in ((), (6, 6), (4, 5), (5,), (6, 0), (0,), (1,)):
            self.check_last("half", rows, (VEE, ("last", wrong), 2))
        for wrong in ((), (5, 4), (4,), (5,), (4, 5, 5), (4, 4), (6,), (4, 6), (6, 5)):
            self.check_last("half", rows, (VEE, ("first", wrong), 2))

    def test_in_the_order_of_the_half(self):
        rows = BY_LAST[:3]
        self.check_right(BOTH, rows + ((BOTH, ("last", (1, 2)), 2),), 2)
        self.check_right(BOTH, rows + ((BOTH[:1] + ((),), ("first", (1, 2)), 2),), 2)
        self.check_right(BOTH, rows + (((("a", "b"), ()), ("last", (2, 1)), 2),), 2)
        for word in ("last", "first"):
            self.check_last("half", rows, (BOTH, (word, (2, 1)), 2))
            self.check_last("half", rows, ((("a", "b"), ()), (word, (1, 2)), 2))

    def test_no_names(self):
        for word in ("last", "first"):
            self.check_last("half", (EMPTY,), (helping.NONE, (word, ()), 0))
            self.check_last("half", (EMPTY,), (helping.NONE, (word, ()), 1))
            self.check_last("half", (EMPTY,), (helping.NONE, (word, (0,)), 1))

    def test_above_and_beside_of_no_names(self):
        rows = (EMPTY, (A, ("row",), 1))
        for word in ("above", "beside"):
            self.check_last("half", rows, (A, (word, 0, 1), 1))
            self.check_last("half", rows, (A, (word, 1, 0), 1))
            self.check_last("half", rows, (helping.NONE, (word, 0, 0), 1))

    def test_above_and_beside_of_names_in_common(self):
        rows = ((A, ("row",), 1), (AB, ("row",), 1), (BA, ("row",), 1))
        for word, half in itertools.product(("above", "beside"), (A, AB, BA, BOTH)):
            for i, j in itertools.product(range(3), repeat=2):
                for number in (1, 2, 3):
                    self.check_last("half", rows, (half, (word, i, j), number))

    def test_above_and_beside_of_too_many_names(self):
        rows = ((helping.ROW, ("row",), 1), ((("k",), ()), ("row",), 1), ((("k", "l"), (("k", "l"),)), ("row",), 1))
        for word in ("above", "beside"):
            for i, j in ((0, 1), (1, 0), (0, 2), (2, 0)):
                self.check_last("half", rows, (helping.ROW, (word, i, j), 1))
                self.check_last("half", rows, (helping.FREE, (word, i, j), 1))

    def test_above_and_beside_of_other_halves(self):
        rows = BY_ABOVE[:4]
        for rule in (("above", 3, 2), ("beside", 2, 3), ("above", 0, 3), ("above", 2, 1), ("beside", 0, 1)):
            self.check_last("half", rows, (VEE, rule, 2))
        self.check_last("half", rows, (BOTH, ("above", 0, 1), 2))
        self.check_last("half", rows, (AB, ("above", 1, 0), 1))
        self.check_last("half", rows, (AB, ("beside", 0, 1), 2))

    def test_turned(self):
        rows = BY_ABOVE + (BY_ASK[0],)
        for half in (VEE, BOTH, ABC, (("c", "a", "d"), (("c", "a"), ("c", "d"))), (("a", "c", "b"), (("c", "b"),))):
            self.check_last("half", rows, (half, ("turned", 4), 2))
        self.check_last("half", rows, (BAC, ("turned", 5), 1))
        self.check_last("half", rows, (TOP, ("turned", 2), 2))

    def test_called(self):
        rows = BY_ABOVE
        half = (("z", "y", "x"), (("x", "z"), ("y", "z")))
        for names in (("z", "x", "y"), ("z", "y", "x")):
            self.check_right(half, rows + ((half, ("called", names, 4), 2),), 2)
        for names in (
            (), ("z",), ("z", "y"), ("z", "y", "x", "w"), ("x", "y", "z"), ("z", "y", "w"), helping.TEN, helping.ELEVEN,
            tuple("abcdefghijklmnopqrstuvwxyz"),
        ):
            self.check_last("half", rows, (half, ("called", names, 4), 2))
        self.check_last("half", rows, (half, ("called", ("z", "y", "x"), 2), 2))
        self.check_last("half", rows, (half, ("called", ("z", "y"), 2), 2))
        self.check_last("half", rows, (helping.NONE, ("called", (), 4), 2))


class TestNumber(PapersCase):
    def test_each_rule(self):
        for paper in RIGHT:
            half, rule, number = paper[-1]
            for wrong in (0, 1, 2, 3, 4, 5, 6, 7, 10 ** 39, 10 ** 40 - 1):
                if wrong != number:
                    self.check_last("number", paper[:-1], (half, rule, wrong))

    def test_a_half_that_is_no_row_s_is_told_ahead_of_the_number(self):
        self.check_last("half", BY_ASK, (VEE, ("ask", "a", "b", 1, 1), 9))
        self.check_last("number", BY_ASK, (VEE, ("ask", "a", "b", 1, 0), 9))

    def test_ways_to_choose(self):
        one = (tuple("abcd"), tuple(zip("abc", "bcd")))
        other = (tuple("efghij"), tuple(zip("efghi", "fghij")))
        rows = ((one, ("row",), 1), (other, ("row",), 1))
        both = helping.put_beside(other, one)
        for rule in (("beside", 0, 1), ("beside", 1, 0)):
            self.check_right(both, rows + ((both, rule, 210),), 210)
            for wrong in (1, 24, 209, 211, 252, 120):
                self.check_last("number", rows, (both, rule, wrong))


class TestAgainstTheWords(PapersCase):
    def test_every_change_of_right_papers(self):
        for paper in RIGHT:
            for rows in helping.changed(paper):
                if not isinstance(rows, tuple):
                    self.check_word("shape", -1, ABC, rows)
                    continue
                due = fault_by_words(rows)
                self.assertEqual(rows_fault(rows), due, rows)
                if due is not None:
                    self.check_word(due[0], due[1], paper[-1][0], rows)

    def test_every_two_changes_of_a_row(self):
        row = BY_CALLED[-1]
        parts = [list(helping.changed(part))[::7] + [part] for part in row]
        for new in itertools.product(*parts):
            self.assertEqual(rows_fault(BY_ABOVE + (new,)), fault_by_words(BY_ABOVE + (new,)), new)

    def small_rows(self):
        """A right row for each half of the names a, b, c, up to halves alike."""
        found = {}
        for names in ((), ("a",), ("b",), ("c",), ("b", "a"), ("c", "b"), ("a", "c"), ("c", "a", "b")):
            halves = [(names, sayings) for sayings in helping.subsets(list(itertools.permutations(names, 2)))]
            for half in halves:
                pairs = frozenset(helping.closed_by_sayings(half))
                if all(one != other for one, other in pairs):
                    found[(frozenset(names), pairs)] = half
        halves = sorted(found.values(), key=lambda half: (len(half[0]), -len(helping.closed_by_sayings(half))))
        rows = []
        for half in halves:
            told = helping.closed_by_sayings(half)
            free = [pair for pair in itertools.combinations(half[0], 2) if not {pair, pair[::-1]} & told]
            if not free:
                rows.append((half, ("row",), 1))
                continue
            sides = [helping.said_more((half[0], told), pair) for pair in (free[0], free[0][::-1])]
            ready = [helping.half_by_words(row[0]) for row in rows]
            places = [[helping.same(side, other) for other in ready].index(True) for side in sides]
            rows.append((half, ("ask",) + free[0] + tuple(places), len(helping.orders(half))))
        return tuple(rows)

    def test_what_is_let_by_is_so_whoever_wrote_it(self):
        rows = self.small_rows()
        self.assertEqual(len(rows), 32)
        self.assertIsNone(rows_fault(rows))
        done = [(helping.half_by_words(row[0]), row[2]) for row in rows]
        places = range(len(rows))
        rules = [("turned", i) for i in places]
        rules += [(word, i, j) for word in ("above", "beside") for i in places for j in places]
        rules += [("ask",) + pair + (i, j) for pair in (("a", "b"), ("c", "a")) for i in places for j in places]
        rules += [(word, refs_told) for word in ("last", "first") for size in (1, 2)
                  for refs_told in itertools.product(places, repeat=size)]
        rules += [("called", names, i) for names in itertools.permutations("abc") for i in places]
        good = 0
        for step, (row, rule) in enumerate(itertools.product(rows, rules)):
            due = word_by_words((row[0], rule, row[2]), done)
            if due is None or step % 97 == 0:
                self.assertEqual(rows_fault(rows + ((row[0], rule, row[2]),)), due and (due, len(rows)), (row, rule))
            if due is None:
                good += 1
                self.assertEqual(len(helping.orders(row[0])), row[2])
                self.assertEqual(rows_fault(rows + ((row[0], rule, row[2] + 1),)), ("number", len(rows)))
        self.assertGreater(good, 100)


class TestNothingIsChanged(PapersCase):
    def test_what_is_handed_in_stays(self):
        half = copy.deepcopy(VEE)
        for paper in RIGHT + ([BY_ASK], (BY_ASK[0], [1], {"a": [2]}), (EMPTY, (VEE, ("last", [0]), {}))):
            kept = copy.deepcopy(paper)
            first = str(vars(helping.refusal(lets_count, half, paper) or NoPaper("", 0)))
            self.assertEqual(str(vars(helping.refusal(lets_count, half, paper) or NoPaper("", 0))), first)
            self.assertEqual((half, paper), (VEE, kept))


if __name__ == "__main__":
    unittest.main()
