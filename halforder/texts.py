"""Tales written as lines."""

NAMES_WORD = "names"
AHEAD_WORD = "ahead"


def tale_lines(tale):
    lines = [" ".join([NAMES_WORD] + list(tale[0]))]
    for saying in tale[1]:
        lines.append(" ".join([AHEAD_WORD] + list(saying)))
    return lines
