"""The cells of a patch by their numbers, and which of them touch."""

from mostlaid.forms import ends_at
from mostlaid.ratios import below


def holder(row, x):
    """The index of the stretch of a row that has a place of the row."""
    return len([end for _, end in row if below(end, x)])


def stretch_numbers(p):
    """For each level the number of its first stretch, as a cell."""
    found = []
    number = 0
    for at, row in enumerate(p.rows):
        found.append(number)
        number = number + len(row) + (len(p.bands[at]) if at < len(p.bands) else 0)
    return found


def neighbours(p):
    """For each cell, by its number, the ascending list of the numbers of the cells that touch it."""
    firsts = stretch_numbers(p)
    found = [[] for row in p.rows for stretch in row] + [[] for band in p.bands for strip in band]
    for at, band in enumerate(p.bands):
        number = firsts[at] + len(p.rows[at])
        for strip in band:
            under = firsts[at] + holder(p.rows[at], strip[0])
            above = firsts[at + 1] + holder(p.rows[at + 1], strip[2])
            found[number] = [under, above]
            found[under].append(number)
            found[above].append(number)
            number = number + 1
    return found


def bare_stretches(p):
    """The tuples (y, a, b) of the stretches at levels that are no end of a strip.

    With the strips they make up the patch.
    """
    found = []
    for at, row in enumerate(p.rows):
        under, above = ends_at(p.bands, at)
        found.extend([(p.levels[at], a, b) for a, b in row if (a, b) not in under + above])
    return found
