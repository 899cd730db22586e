"""Two patches laid over one another, at heights between which no sides cross."""

from mostlaid.forms import ends_at, inner
from mostlaid.patches import cut_at, formed
from mostlaid.ratios import below, in_order, minus, on_way, over, plus, sort_keys

JOINED = "joined"
COMMON = "common"
LESS = "less"
CUT = "cut"


def sides_of(strips):
    """The sides of strips, the left and then the right one of each, as places below and above."""
    sides = []
    for a, b, c, d in strips:
        sides.append((a, c))
        sides.append((b, d))
    return sides


def side_keys(sides):
    """Pairs of integers in the order of sides that do not cross; they are equal only for equal sides."""
    lows = sort_keys([side[0] for side in sides])
    highs = sort_keys([side[1] for side in sides])
    return list(zip(lows, highs))


def crossing(one, other, low, high):
    """The height at which two sides cross that change their order between two heights."""
    before = minus(other[0], one[0])
    behind = minus(one[1], other[1])
    share = over(before, plus(before, behind))
    return on_way(low, high, share[0], share[1])


def crossings(low, high, sides):
    """The heights strictly between two heights at which sides cross that go from one to the other."""
    ordered = sorted([(key, at) for at, key in enumerate(side_keys(sides))])
    found = []
    passed = []
    for (_, key), at in ordered:
        spot = len(passed)
        while spot > 0 and passed[spot - 1][0] > key:
            spot -= 1
            found.append(crossing(sides[passed[spot][1]], sides[at], low, high))
        passed.insert(spot, (key, at))
    return found


def marks(ranks, size, bare):
    """For each place, and each gap behind a place, whether spans of places have it.

    The place k has the index 2 * k and the gap behind it the index 2 * k + 1. Spans that are
    bare lack their ends.
    """
    found = [False] * size
    for k in range(0, len(ranks), 2):
        first = 2 * ranks[k] + (1 if bare else 0)
        last = 2 * ranks[k + 1] - (1 if bare else 0)
        for at in range(first, last + 1):
            found[at] = True
    return found


def with_ends(found):
    """Marks with the places at both ends of each gap that is marked."""
    closed = list(found)
    for gap in range(1, len(found), 2):
        if found[gap]:
            closed[gap - 1] = True
            closed[gap + 1] = True
    return closed


def runs(found):
    """The longest runs of marks, as pairs of places; a run begins and ends at a place."""
    spans = []
    begin = -1
    for at, mark in enumerate(found + [False]):
        if mark and begin < 0:
            begin = at
        if not mark and begin >= 0:
            spans.append((begin // 2, (at - 1) // 2))
            begin = -1
    return spans


def blended(rule, keys, many):
    """The spans that a rule makes of some spans and others, as pairs of indexes of keys.

    Two keys that follow one another are the ends of a span. The first ones, this many, are of
    the spans that come first in the rule. The spans that are cut out lack their ends.
    """
    ordered = sorted(set(keys))
    rank_of = {key: rank for rank, key in enumerate(ordered)}
    ranks = [rank_of[key] for key in keys]
    size = 2 * len(ordered) - 1
    mine = marks(ranks[:many], size, False)
    yours = marks(ranks[many:], size, rule == CUT)
    if rule == JOINED:
        kept = [a or b for a, b in zip(mine, yours)]
    elif rule == COMMON:
        kept = [a and b for a, b in zip(mine, yours)]
    else:
        kept = [a and not b for a, b in zip(mine, yours)]
    if rule == LESS:
        kept = with_ends(kept)
    index_of = {rank: at for at, rank in enumerate(ranks)}
    return [(index_of[first], index_of[last]) for first, last in runs(kept)]


def blended_row(rule, mine, yours):
    """The stretches that a rule makes of those of two patches at one height."""
    if not mine or not yours:
        return plain_choice(rule, mine, yours)
    places = [place for stretch in mine + yours for place in stretch]
    spans = blended(rule, sort_keys(places), 2 * len(mine))
    return tuple([(places[i], places[j]) for i, j in spans])


def blended_band(rule, mine, yours):
    """The strips that a rule makes of those of two patches between two heights."""
    if not mine or not yours:
        return plain_choice(rule, mine, yours)
    sides = sides_of(mine + yours)
    spans = blended(rule, side_keys(sides), 2 * len(mine))
    return tuple([(sides[i][0], sides[j][0], sides[i][1], sides[j][1]) for i, j in spans])


def plain_choice(rule, mine, yours):
    """What a rule makes of two tuples of spans one of which is empty."""
    if rule == JOINED:
        return mine + yours
    return () if rule == COMMON else mine


def united(stretches):
    """The longest stretches of the union of stretches at one height."""
    places = [place for stretch in stretches for place in stretch]
    if not places:
        return ()
    spans = blended(JOINED, sort_keys(places), len(places))
    return tuple([(places[i], places[j]) for i, j in spans])


def cuts_at(p, heights):
    """What a patch has at heights: its row, and its stretches just below and just above."""
    return [cut_at(p, y) for y in heights]


def bands_of(cuts):
    """The strips between each two neighbours of cuts with no level between them."""
    found = []
    for at in range(len(cuts) - 1):
        found.append(tuple([low + high for low, high in zip(cuts[at][2], cuts[at + 1][1])]))
    return found


def levels_within(p, low, high):
    """The levels of a patch from one height to another one."""
    return [y for y in p.levels if not below(y, low) and not below(high, y)]


def shared_heights(rule, p, q):
    """The levels of two patches, as far as what a rule makes of them can reach."""
    if rule == JOINED:
        return in_order(p.levels + q.levels)
    return in_order(p.levels + tuple(levels_within(q, p.levels[0], p.levels[-1])))


def all_crossings(heights, mine, yours):
    """The heights at which sides of two patches cross, if both have strips between neighbours of heights."""
    found = []
    for at, (one, other) in enumerate(zip(bands_of(mine), bands_of(yours))):
        if one and other:
            found.extend(crossings(heights[at], heights[at + 1], sides_of(one + other)))
    return found


def overlaid(rule, p, q):
    """The patch that a rule makes of two patches that are not empty."""
    heights = shared_heights(rule, p, q)
    mine, yours = cuts_at(p, heights), cuts_at(q, heights)
    more = all_crossings(heights, mine, yours)
    if more:
        heights = in_order(heights + more)
        mine, yours = cuts_at(p, heights), cuts_at(q, heights)
    bands = [blended_band(rule, one, other) for one, other in zip(bands_of(mine), bands_of(yours))]
    if rule == CUT:
        rows = [blended_row(CUT, one[0], inner(other[1], other[2])) for one, other in zip(mine, yours)]
    else:
        rows = [blended_row(rule, one[0], other[0]) for one, other in zip(mine, yours)]
    if rule == LESS:
        rows = closed_rows(rows, bands)
    return formed(heights, rows, bands)


def closed_rows(rows, bands):
    """Rows with the ends of the strips between them."""
    found = []
    for at, row in enumerate(rows):
        under, above = ends_at(bands, at)
        ends = under + above
        found.append(row if all([end in row for end in ends]) else united(row + ends))
    return found
