import copy
import itertools
import unittest

import helping
from halforder.boundchecker import lets_bound
from halforder.countchecker import rows_fault
from halforder.errors import NoBound

A = (("a",), ())
B = (("b",), ())
C = (("c",), ())
AB = (("a", "b"), (("a", "b"),))
BA = (("b", "a"), (("b", "a"),))
BOTH = (("a", "b"), ())
THREE = (("c", "a", "b"), ())
CA = (("c", "a", "b"), (("c", "a"),))
BC = (("b", "c", "a"), (("b", "c"),))
ABC = (("b", "a", "c"), (("a", "b"), ("a", "b")))

BOTH_COUNTS = ((AB, ("row",), 1), (BA, ("row",), 1), (BOTH, ("ask", "a", "b", 0, 1), 2))
BY_NONE = ((), ((THREE, 0, ("none",)),))
BY_MANY = (BOTH_COUNTS, ((BOTH, 1, ("many", 2)),))
THREE_COUNTS = (
    ((("c", "a"), (("c", "a"),)), ("row",), 1), (B, ("row",), 1), (CA, ("beside", 0, 1), 3),
    ((("b", "c"), (("b", "c"),)), ("row",), 1), (A, ("row",), 1), (BC, ("beside", 3, 4), 3),
    (AB, ("row",), 1), (C, ("row",), 1), (ABC, ("beside", 6, 7), 3),
)
THREE_ROWS = (
    (CA, 2, ("many", 2)), (BC, 2, ("many", 5)), (ABC, 2, ("many", 8)),
    (THREE, 3, ("asks", ((0, 0), (1, 1), (0, 2)))),
)
BY_ASKS = (THREE_COUNTS, THREE_ROWS)
RIGHT = (BY_NONE, BY_MANY, BY_ASKS)


class Writer:
    """Writes bound papers by listing: counts by asking down to rows, bounds by what trying all plans tells."""

    def __init__(self, names):
        self.names = names
        self.counts, self.rows = [], []
        self.counted, self.bounded = {}, {}

    def half(self, rows):
        pairs = itertools.permutations(self.names, 2)
        return (self.names, tuple(pair for pair in pairs if all(helping.stands_ahead(row, *pair) for row in rows)))

    def count_row(self, rows):
        if rows not in self.counted:
            parts = helping.parted(rows)
            rule = ("row",)
            if parts:
                pair, first, second = parts[-1]
                rule = ("ask",) + pair + (self.count_row(first), self.count_row(second))
            self.counts.append((self.half(rows), rule, len(rows)))
            self.counted[rows] = len(self.counts) - 1
        return self.counted[rows]

    def bound_row(self, rows, least):
        if (rows, least) not in self.bounded:
            if least == 0:
                rule = ("none",)
            elif len(rows) > 2 ** (least - 1):
                rule = ("many", self.count_row(rows))
            else:
                rule = ("asks", tuple(self.answer(rows, pair, least - 1) for pair in self.untold(rows)))
            self.rows.append((self.half(rows), least, rule))
            self.bounded[(rows, least)] = len(self.rows) - 1
        return self.bounded[(rows, least)]

    def untold(self, rows):
        told = set(self.half(rows)[1])
        return [pair for pair in itertools.combinations(self.names, 2) if not {pair, pair[::-1]} & told]

    def answer(self, rows, pair, least):
        first = frozenset(row for row in rows if helping.stands_ahead(row, *pair))
        for side, part in enumerate((first, rows - first)):
            if helping.least_depth(part) >= least:
                return (side, self.bound_row(part, least))
        raise AssertionError(pair)

    def paper(self, half, least):
        self.bound_row(frozenset(helping.orders(half)), least)
        return (tuple(self.counts), tuple(self.rows))


def rule_fits_kinds(rule):
    if type(rule) is not tuple or not rule or type(rule[0]) is not str:
        return False
    if rule[0] == "none":
        return len(rule) == 1
    if rule[0] == "many":
        return len(rule) == 2 and helping.whole(rule[1])
    if rule[0] != "asks" or len(rule) != 2 or type(rule[1]) is not tuple:
        return False
    if not all(type(answer) is tuple and len(answer) == 2 for answer in rule[1]):
        return False
    return all(helping.whole(side) and side in (0, 1) and helping.whole(ref) for side, ref in rule[1])


def asks_fit(half, told, done):
    names, pairs = half
    free = [pair for pair in itertools.combinations(names, 2) if not {pair, pair[::-1]} & pairs]
    if not free or len(free) != len(told):
        return False
    sides = [helping.said_more(half, pair[::-1] if side else pair) for pair, (side, ref) in zip(free, told)]
    return all(helping.same(side, done[ref][0]) for side, (turn, ref) in zip(sides, told))


def word_by_words(row, counts, done):
    if type(row) is not tuple or len(row) != 3 or helping.half_by_words(row[0]) is None:
        return "row"
    if not helping.whole(row[1]) or not 0 <= row[1] <= 200 or not rule_fits_kinds(row[2]):
        return "row"
    half, least, rule = helping.half_by_words(row[0]), row[1], row[2]
    if rule[0] == "none":
        return None if least == 0 else "least"
    if rule[0] == "many":
        if rule[1] not in range(len(counts)):
            return "ref"
        if not helping.same(half, helping.half_by_words(counts[rule[1]][0])):
            return "half"
        return None if least >= 1 and counts[rule[1]][2] > 2 ** (least - 1) else "least"
    if not all(ref in range(len(done)) for side, ref in rule[1]):
        return "ref"
    if not asks_fit(half, rule[1], done):
        return "half"
    return None if least >= 1 and all(done[ref][1] >= least - 1 for side, ref in rule[1]) else "least"


def fault_by_words(half, paper):
    if type(paper) is not tuple or len(paper) != 2 or type(paper[0]) is not tuple or type(paper[1]) is not tuple:
        return ("shape", -1)
    if len(paper[0]) > 6000 or not 1 <= len(paper[1]) <= 6000:
        return ("shape", -1)
    wrong = rows_fault(paper[0])
    if wrong is not None:
        return ("count", wrong[1])
    done = []
    for place, row in enumerate(paper[1]):
        word = word_by_words(row, paper[0], done)
        if word is not None:
            return (word, place)
        done.append((helping.half_by_words(row[0]), row[1]))
    last = len(paper[1]) - 1
    return None if helping.same(done[-1][0], helping.half_by_words(half)) else ("last", last)


class BoundsCase(unittest.TestCase):
    def check_word(self, word, row, half, paper):
        refused = helping.refusal(lets_bound, half, paper)
        self.assertIsInstance(refused, NoBound, paper)
        self.assertEqual((refused.word, refused.row), (word, row), paper)
        self.assertIs(type(refused.row), int)

    def check_row(self, word, row, paper=BY_ASKS):
        """A row behind right ones, and behind it one that is wrong, too: the first fault is told."""
        for more in ((), (None,), (row,)):
            self.check_word(word, len(paper[1]), THREE, (paper[0], paper[1] + (row,) + more))

    def check_right(self, half, paper, least):
        self.assertEqual(lets_bound(half, paper), least)
        self.assertIs(type(lets_bound(half, paper)), int)


class TestRightPapers(BoundsCase):
    def test_each_rule(self):
        self.check_right(THREE, BY_NONE, 0)
        self.check_right(BOTH, BY_MANY, 1)
        self.check_right(THREE, BY_ASKS, 3)
        for length in (1, 2, 3):
            self.check_right(THREE_ROWS[length - 1][0], (THREE_COUNTS, THREE_ROWS[:length]), 2)

    def test_any_half_that_is_alike(self):
        self.check_right((("b", "a", "c"), ()), BY_ASKS, 3)
        self.check_right((("b", "a"), ()), BY_MANY, 1)
        self.check_right(ABC, (THREE_COUNTS, THREE_ROWS[:3]), 2)
        self.check_right((("c", "a", "b"), (("a", "b"),)), (THREE_COUNTS, THREE_ROWS[:3]), 2)

    def test_lesser_numbers(self):
        self.check_right(BOTH, (BOTH_COUNTS, ((BOTH, 0, ("none",)),)), 0)
        self.check_right(CA, (THREE_COUNTS, ((CA, 1, ("many", 2)),)), 1)
        for least in (1, 2, 3):
            row = (THREE, least, THREE_ROWS[3][2])
            self.check_right(THREE, (THREE_COUNTS, THREE_ROWS[:3] + (row,)), least)

    def test_either_side(self):
        # Of each pair either side has three orders.
        halves = [(("c", "a", "b"), (pair,)) for pair in itertools.permutations("cab", 2)]
        counts = []
        rows = []
        for half in halves:
            third = [name for name in "cab" if name not in half[1][0]]
            counts += [((half[1][0], half[1]), ("row",), 1), ((tuple(third), ()), ("row",), 1)]
            counts.append((half, ("beside", len(counts) - 2, len(counts) - 1), 3))
            rows.append((half, 2, ("many", len(counts) - 1)))
        places = {half[1][0]: place for place, half in enumerate(halves)}
        for sides in itertools.product((0, 1), repeat=3):
            pairs = zip((("c", "a"), ("c", "b"), ("a", "b")), sides)
            told = tuple((side, places[pair[::-1] if side else pair]) for pair, side in pairs)
            paper = (tuple(counts), tuple(rows) + ((THREE, 3, ("asks", told)),))
            self.check_right(THREE, paper, 3)
            wrong = tuple((1 - side, ref) for side, ref in told)
            self.check_word("half", 6, THREE, (tuple(counts), tuple(rows) + ((THREE, 3, ("asks", wrong)),)))

    def test_edges(self):
        for half in (helping.NONE, helping.ONE, helping.ROW, helping.FREE, helping.FULL):
            self.check_right(half, ((), ((half, 0, ("none",)),)), 0)

    def test_rows_told_twice_and_rows_that_nothing_rests_on(self):
        none = (helping.ZIGZAG, 0, ("none",))
        rows = THREE_ROWS[:3] + (none, none) + THREE_ROWS[:3] + (THREE_ROWS[3], none, THREE_ROWS[3])
        self.check_right(THREE, (THREE_COUNTS + BOTH_COUNTS[:2], rows), 3)
        self.check_right(helping.ZIGZAG, (THREE_COUNTS, rows[:-1]), 0)

    def test_a_fence_that_closes(self):
        half = helping.CLOSED_FENCE
        self.assertEqual(len(helping.orders(half)), 8)
        paper = Writer(half[0]).paper(half, 4)
        self.check_right(half, paper, 4)
        rows = paper[1]
        self.assertEqual(rows[-1][2][0], "asks")
        self.check_word("least", len(rows) - 1, half, (paper[0], rows[:-1] + (rows[-1][:1] + (5,) + rows[-1][2:],)))

    def test_by_listing(self):
        for half in helping.small_halves() + helping.four_name_halves()[::6] + helping.five_name_halves()[::40]:
            rows = frozenset(helping.orders(half))
            if len(rows) <= 60:
                least = helping.least_depth(rows)
                for number in range(least + 1):
                    self.check_right(half, Writer(half[0]).paper(half, number), number)


class TestShape(BoundsCase):
    def test_what_is_no_tuple_of_two_tuples(self):
        counts, rows = BY_ASKS
        for thing in (
            None, True, 0, "", [], {}, (), (counts,), (counts, rows, ()), list(BY_ASKS), (list(counts), rows),
            (counts, list(rows)), (counts, ()), ((), ()), (None, rows), (counts, None), (counts, "ab"), ("", rows),
            ({}, rows), (counts, {0: rows[0]}), (rows,), rows,
        ):
            self.check_word("shape", -1, THREE, thing)
        for thing in helping.STRANGE + (helping.strange_deep(90),):
            if fault_by_words(THREE, thing) == ("shape", -1):
                self.check_word("shape", -1, THREE, thing)
            self.check_word("shape", -1, THREE, (thing, ()))
            self.check_word("shape", -1, THREE, (thing,))

    def test_so_long(self):
        one = (helping.NONE, ("row",), 1)
        none = (helping.NONE, 0, ("none",))
        self.check_right(helping.NONE, ((one,) * 6000, (none,)), 0)
        self.check_word("shape", -1, helping.NONE, ((one,) * 6001, (none,)))
        self.check_right(helping.NONE, ((), (none,) * 6000), 0)
        self.check_word("shape", -1, helping.NONE, ((), (none,) * 6001))
        self.check_word("shape", -1, helping.NONE, ((None,) * 6001, (none,)))
        self.check_word("shape", -1, helping.NONE, ((None,), (None,) * 6001))
        self.check_word("shape", -1, helping.NONE, ((one,), ()))
        self.check_word("count", 5999, helping.NONE, ((one,) * 5999 + (None,), (none,)))
        self.check_word("row", 5999, helping.NONE, ((), (none,) * 5999 + (None,)))


class TestCount(BoundsCase):
    def test_the_first_row_that_is_refused(self):
        for place, row in (
            (0, None), (1, (B, ("row",), 2)), (2, (CA, ("beside", 0, 2), 3)), (5, (BC, ("above", 3, 4), 1)),
            (8, (ABC, ("beside", 6, 7), True)), (8, (ABC, ("beside", 6, 8), 3)), (3, (THREE, ("row",), 1)),
        ):
            counts = THREE_COUNTS[:place] + (row,) + THREE_COUNTS[place + 1:]
            self.check_word("count", place, THREE, (counts, THREE_ROWS))
            self.check_word("count", place, THREE, (counts + (None,), (None,)))
            self.check_word("count", place, THREE, (counts, (BY_NONE[1][0],)))

    def test_no_rows(self):
        self.check_word("ref", 0, THREE, ((), THREE_ROWS))


class TestRow(BoundsCase):
    def test_rows_of_other_kinds(self):
        none = (THREE, 0, ("none",))
        for row in (
            None, True, 0, "none", (), [], {}, list(none), none[:2], none + (0,), none[::-1], (none,),
            (list(THREE), 0, ("none",)), ((("a", "a"), ()), 0, ("none",)), (None, 0, ("none",)),
            ((("a", "b"), (("a", "b"), ("b", "a"))), 0, ("none",)), ((helping.ELEVEN, ()), 0, ("none",)),
            ((helping.TEN, helping.SIXTY_ONE), 0, ("none",)), ((("a",), (("a", "b"),)), 0, ("none",)),
            (THREE, False, ("none",)), (THREE, True, ("none",)), (THREE, None, ("none",)), (THREE, "0", ("none",)),
            (THREE, (0,), ("none",)), (THREE, [0], ("none",)), (THREE, -1, ("none",)), (THREE, 201, ("none",)),
            (THREE, 10 ** 39, ("none",)), (THREE, -10 ** 39, ("none",)), (THREE, 201, ("many", 2)),
            (THREE, ("none",), 0),
        ):
            self.check_row("row", row)

    def test_rules_of_other_kinds(self):
        for rule in (
            None, (), [], "none", "many", ["none"], (None,), (True,), (0,), (["none"],), ({},), ("nones",), ("none", 0),
            ("none", ()), ("NONE",), ("many",), ("many", True), ("many", None), ("many", "2"), ("many", (2,)),
            ("many", [2]), ("many", 2, 2), ("many", ()), (2, "many"), ("Many", 2), ("row",), ("asks",), ("asks", 0),
            ("asks", None), ("asks", [(0, 0)]), ("asks", {}), ("asks", "ab"), ("asks", (0, 0)), ("asks", ((0,),)),
            ("asks", ((0, 0, 0),)), ("asks", ([0, 0],)), ("asks", ((True, 0),)), ("asks", ((False, 0),)),
            ("asks", ((2, 0),)), ("asks", ((-1, 0),)), ("asks", ((None, 0),)), ("asks", (("0", 0),)),
            ("asks", ((0, True),)), ("asks", ((0, None),)), ("asks", ((0, "0"),)), ("asks", ((0, (0,)),)),
            ("asks", ((0, 0), (0, 1), None)), ("asks", ((0, 0), (1, 1), (0, 2)), 0), ("asks", (0, 0), (1, 1), (0, 2)),
            ("asks", ((0, 0), (1, 1), (0, 2), ())), ("asks", (((0, 0),),)), ("asks", ((10 ** 39, 0),)),
        ):
            self.check_row("row", (THREE, 0, rule))
            self.check_row("row", (THREE, 3, rule))
            self.check_row("row", (helping.NONE, 3, rule))


class TestRef(BoundsCase):
    def test_rows_of_counts(self):
        for ref in (9, 10, -1, -9, 10 ** 39, -10 ** 39):
            self.check_row("ref", (THREE, 0, ("many", ref)))
            self.check_row("ref", (ABC, 2, ("many", ref)))
        self.check_word("ref", 0, A, ((), ((A, 1, ("many", 0)),)))

    def test_rows_of_counts_are_all_ahead(self):
        rows = tuple((half, 2, ("many", place)) for half, place in ((ABC, 8), (BC, 5), (CA, 2)))
        self.check_right(CA, (THREE_COUNTS, rows), 2)

    def test_rows_ahead(self):
        for ref in (4, 5, -1, -4, 8, 10 ** 39, -10 ** 39):
            for told in (
                ((0, ref), (1, 1), (0, 2)), ((0, 0), (1, ref), (0, 2)), ((0, 0), (1, 1), (0, ref)), ((0, ref),),
                ((0, 0), (1, 1), (0, 2), (1, ref)),
            ):
                self.check_row("ref", (THREE, 3, ("asks", told)))
                self.check_row("ref", (helping.ROW, 0, ("asks", told)))
        self.check_word("ref", 0, THREE, (THREE_COUNTS, (THREE_ROWS[3],) + THREE_ROWS[:3]))


class TestHalf(BoundsCase):
    def test_many(self):
        for half, ref in ((THREE, 8), (ABC, 5), (ABC, 6), (AB, 8), (BA, 6), (B, 4), (helping.NONE, 0), (CA, 5)):
            for least in (0, 1, 2, 3):
                self.check_row("half", (half, least, ("many", ref)))

    def test_asks_of_a_row(self):
        for half in (helping.NONE, A, AB, helping.ROW, helping.FULL):
            for told in ((), ((0, 0),), ((0, 3), (1, 3), (0, 0))):
                for least in (0, 1):
                    self.check_row("half", (half, least, ("asks", told)))

    def test_not_as_many_answers(self):
        told = ((0, 0), (1, 1), (0, 2))
        for wrong in ((), told[:2], told[1:], told[::2], told + told[2:], told[:1] + told):
            self.check_row("half", (THREE, 3, ("asks", wrong)))
            self.check_row("half", (THREE, 0, ("asks", wrong)))

    def test_other_halves(self):
        for wrong in itertools.product(itertools.product((0, 1), range(4)), repeat=3):
            if wrong != ((0, 0), (1, 1), (0, 2)):
                self.check_word("half", 4, THREE, (THREE_COUNTS, THREE_ROWS + ((THREE, 3, ("asks", wrong)),)))

    def test_pairs_rise_by_the_row_s_own_names(self):
        half = (("a", "b", "c"), ())
        told = ((0, 2), (1, 0), (0, 1))
        self.check_right(half, (THREE_COUNTS, THREE_ROWS + ((half, 3, ("asks", told)),)), 3)
        self.check_row("half", (half, 3, THREE_ROWS[3][2]))
        self.check_row("half", (THREE, 3, ("asks", told)))


class TestLeast(BoundsCase):
    def test_none(self):
        for least in (1, 2, 3, 200):
            self.check_row("least", (THREE, least, ("none",)))
            self.check_row("least", (helping.ROW, least, ("none",)))

    def test_many(self):
        for least in (0, 3, 4, 200):
            self.check_row("least", (ABC, least, ("many", 8)))
        for least in (0, 1, 2, 200):
            self.check_row("least", (AB, least, ("many", 6)))

    def test_just_as_many_as_ends(self):
        # Four orders: more than two, but not more than four.
        half = (("a", "b", "c", "d"), (("a", "b"), ("b", "c")))
        counts = ((half[0][:3], half[1]), ("row",), 1), ((("d",), ()), ("row",), 1), (half, ("beside", 0, 1), 4)
        self.check_right(half, (counts, ((half, 2, ("many", 2)),)), 2)
        self.check_word("least", 0, half, (counts, ((half, 3, ("many", 2)),)))

    def test_many_orders(self):
        # 3,628,800 orders: more than 2 ** 21, fewer than 2 ** 22.
        counts = []
        for size, name in enumerate(helping.TEN, start=1):
            counts.append((((name,), ()), ("row",), 1))
            if size > 1:
                number = counts[-2][2] * size
                counts.append(((helping.TEN[:size], ()), ("beside", len(counts) - 2, len(counts) - 1), number))
        for least in range(1, 23):
            self.check_right(helping.FREE, (tuple(counts), ((helping.FREE, least, ("many", 18)),)), least)
        for least in (0, 23, 24, 199, 200):
            self.check_word("least", 0, helping.FREE, (tuple(counts), ((helping.FREE, least, ("many", 18)),)))

    def test_asks(self):
        for least in (0, 4, 5, 200):
            self.check_row("least", (THREE, least, THREE_ROWS[3][2]))
        for place in range(3):
            rows = list(THREE_ROWS)
            rows[place] = (rows[place][0], 1, rows[place][2])
            self.check_word("least", 3, THREE, (THREE_COUNTS, tuple(rows)))
            rows[3] = (THREE, 2, rows[3][2])
            self.check_right(THREE, (THREE_COUNTS, tuple(rows)), 2)


class TestLast(BoundsCase):
    def test_another_half(self):
        for half in (helping.NONE, ABC, CA, (("a", "b", "d"), ()), helping.FREE):
            self.check_word("last", 3, half, BY_ASKS)
            self.check_word("last", 0, half, BY_NONE)
        self.check_word("last", 2, THREE, (THREE_COUNTS, THREE_ROWS[:3]))


class TestAgainstTheWords(BoundsCase):
    def check_changed(self, half, things):
        for thing in things:
            due = fault_by_words(half, thing)
            if due is None:
                self.check_right(half, thing, thing[1][-1][1])
                self.assertLessEqual(thing[1][-1][1], helping.least_depth(frozenset(helping.orders(half))))
            else:
                self.check_word(due[0], due[1], half, thing)

    def test_every_change_of_right_papers(self):
        self.check_changed(THREE, helping.changed(BY_NONE))
        self.check_changed(BOTH, helping.changed(BY_MANY))
        self.check_changed(THREE, helping.changed(BY_ASKS))

    def test_every_two_changes_of_a_row(self):
        row = THREE_ROWS[3]
        parts = [list(helping.changed(part))[::5] + [part] for part in row]
        for new in itertools.product(*parts):
            self.check_changed(THREE, [(THREE_COUNTS, THREE_ROWS[:3] + (new,))])

    def test_what_is_let_by_is_so_whoever_wrote_it(self):
        half = helping.CLOSED_FENCE
        paper = Writer(half[0]).paper(half, 4)
        for place, row in enumerate(paper[1]):
            for least in range(7):
                rows = paper[1][:place] + (row[:1] + (least,) + row[2:],) + paper[1][place + 1:]
                due = fault_by_words(half, (paper[0], rows))
                self.assertTrue(due is not None or least <= helping.least_depth(frozenset(helping.orders(row[0]))))
                self.check_changed(half, [(paper[0], rows)])


class TestNothingIsChanged(BoundsCase):
    def test_what_is_handed_in_stays(self):
        half = copy.deepcopy(THREE)
        for paper in RIGHT + ([BY_ASKS], ([1], {"a": [2]}), (BY_ASKS[0], (None, [1])), (BY_ASKS[0], [{}])):
            kept = copy.deepcopy(paper)
            first = helping.refusal(lets_bound, half, paper)
            second = helping.refusal(lets_bound, half, paper)
            self.assertEqual(first and vars(first), second and vars(second))
            self.assertEqual((half, paper), (THREE, kept))


if __name__ == "__main__":
    unittest.main()
