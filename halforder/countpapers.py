"""Count papers."""

from halforder.closures import is_row


def firsts(half):
    return [name for name in half[0] if all([saying[1] != name for saying in half[1]])]


# Through a name that none is ahead of no way leads: so nothing but its own sayings goes with it.
def without_first(half, name):
    names = tuple([other for other in half[0] if other != name])
    return (names, tuple([saying for saying in half[1] if saying[0] != name]))


# Rows of a count paper, each half just once: 1,023 for ten names at most, one for each set of names but none.
class CountRows:
    def __init__(self):
        self.rows = []
        self.known = {}

    # The number of the half's row, which is written behind those that it rests on, if it isn't there.
    def row_of(self, half):
        if half not in self.known:
            row = (half, ("row",), 1) if is_row(half) else self.first_row(half)
            self.known[half] = len(self.rows)
            self.rows.append(row)
        return self.known[half]

    def first_row(self, half):
        refs = tuple([self.row_of(without_first(half, name)) for name in firsts(half)])
        return (half, ("first", refs), sum([self.rows[ref][2] for ref in refs]))


def count_paper(half):
    counts = CountRows()
    counts.row_of(half)
    return tuple(counts.rows)
