"""Tales read from lines."""

from halforder.errors import NoText
from halforder.halves import MOST_SAYINGS, are_tale_names, is_saying
from halforder.texts import AHEAD_WORD, NAMES_WORD


# Parted at each blank, so that a blank too many leaves an empty word, which is no name.
def read_names(line):
    words = line.split(" ")
    names = tuple(words[1:])
    if words[0] != NAMES_WORD or not are_tale_names(names):
        raise NoText(0)
    return names


# The names have row 0, so a row has as many sayings up to it as its own number.
def read_saying(line, row, names):
    words = line.split(" ")
    saying = tuple(words[1:])
    if row > MOST_SAYINGS or words[0] != AHEAD_WORD or not is_saying(saying, names):
        raise NoText(row)
    return saying


def read_tale(lines):
    if len(lines) == 0:
        raise NoText(0)
    names = read_names(lines[0])
    sayings = [read_saying(lines[row], row, names) for row in range(1, len(lines))]
    return (names, tuple(sayings))
