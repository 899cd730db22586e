"""Many values made into one, two at a time."""


def folded(values, both):
    """What a function of two values makes of a list of values, at least one, in their order.

    Neighbours come first, and then what was made of them: so most of what is made stays small.
    """
    left = list(values)
    while len(left) > 1:
        last = left[len(left) - len(left) % 2:]
        left = [both(left[k], left[k + 1]) for k in range(0, len(left) - 1, 2)] + last
    return left[0]
