"""Forms and ways of words that texts write, told as texts."""

from braidcomb.errors import Unlike
from braidcomb.forms import form
from braidcomb.ways import way
from braidcomb.wordtext import read_text


def line_of(parts):
    """Write a line: the parts with one blank between them, and a line feed."""
    return " ".join([str(part) for part in parts]) + "\n"


def combed(text):
    """Write the form of the word that a text writes."""
    read = read_text(text)
    found = form(read[0], read[1])
    lines = [line_of(["halves", found[0]])]
    for row in found[1]:
        lines.append(line_of(["row"] + row))
    return "".join(lines)


def compared(text, other):
    """Write a way from the word that the one text writes to that of the other one, or that there is none."""
    # Both are read ahead of all else, so that a text that can't be read is refused whatever the other one writes.
    first = read_text(text)
    second = read_text(other)
    if first[0] != second[0]:
        return line_of(["unlike"])
    try:
        moves = way(first[0], first[1], second[1])
    except Unlike:
        return line_of(["unlike"])
    return "".join([line_of(["same"])] + [line_of(move) for move in moves])
