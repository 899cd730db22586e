"""Numbers: exact fractions, written as tuples (n, d) in lowest terms with d above 0."""

from math import gcd

from mostlaid.errors import BadNumber

MOST_DIGITS = 60
DIGITS = "0123456789"
BLOCK_DIGITS = 64


def is_whole(value):
    """Whether any value is an integer; True and False are none."""
    return isinstance(value, int) and not isinstance(value, bool)


def is_fraction(value):
    """Whether any value is a tuple of two integers."""
    return isinstance(value, tuple) and len(value) == 2 and is_whole(value[0]) and is_whole(value[1])


def is_number(value):
    """Whether any value is an integer or a number in lowest terms."""
    if is_whole(value):
        return True
    return is_fraction(value) and value[1] > 0 and gcd(value[0], value[1]) == 1


def reduced(n, d):
    """The number n / d, for d other than 0."""
    if d < 0:
        n, d = -n, -d
    shared = gcd(n, d)
    if shared == 1:
        return (n, d)
    return (n // shared, d // shared)


def pair(a):
    """The tuple of a number."""
    if isinstance(a, int):
        return (a, 1)
    return a


def has_digits(text):
    """Whether a text is a whole number from 0, without a sign and without leading zeros."""
    if not 1 <= len(text) <= MOST_DIGITS:
        return False
    if text[0] == "0" and len(text) > 1:
        return False
    return all([sign in DIGITS for sign in text])


def read_number(text):
    """The number of a text, or None if the text does not have the one form of a number."""
    negative = text.startswith("-")
    words = text[1:].split("/") if negative else text.split("/")
    if len(words) > 2 or not all([has_digits(word) for word in words]):
        return None
    n = int(words[0])
    d = int(words[1]) if len(words) == 2 else 1
    if negative and n == 0:
        return None
    if len(words) == 2 and (d < 2 or gcd(n, d) > 1):
        return None
    return (-n, d) if negative else (n, d)


def exact(value):
    """The number for an integer, for a tuple (n, d) in any terms, or for the text of a number."""
    if is_whole(value):
        return (value, 1)
    if is_fraction(value) and value[1] != 0:
        return reduced(value[0], value[1])
    if isinstance(value, str):
        number = read_number(value)
        if number is not None:
            return number
    raise BadNumber(value)


def plus(a, b):
    """The sum."""
    a, b = pair(a), pair(b)
    if a[1] == 1 and b[1] == 1:
        return (a[0] + b[0], 1)
    return reduced(a[0] * b[1] + b[0] * a[1], a[1] * b[1])


def minus(a, b):
    """The difference."""
    a, b = pair(a), pair(b)
    if a[1] == 1 and b[1] == 1:
        return (a[0] - b[0], 1)
    return reduced(a[0] * b[1] - b[0] * a[1], a[1] * b[1])


def times(a, b):
    """The product."""
    a, b = pair(a), pair(b)
    return reduced(a[0] * b[0], a[1] * b[1])


def over(a, b):
    """The quotient."""
    a, b = pair(a), pair(b)
    if b[0] == 0:
        raise BadNumber(b)
    return reduced(a[0] * b[1], a[1] * b[0])


def below(a, b):
    """Whether the tuple a is less than the tuple b, as numbers."""
    return a[0] * b[1] < b[0] * a[1]


def compare(a, b):
    """-1, 0 or 1 as a is less than, equal to or greater than b."""
    a, b = pair(a), pair(b)
    if below(a, b):
        return -1
    return 1 if below(b, a) else 0


def least(numbers):
    """The least of some numbers."""
    best = pair(numbers[0])
    for number in numbers:
        if below(pair(number), best):
            best = pair(number)
    return best


def greatest_of(numbers):
    """The greatest of some numbers."""
    best = pair(numbers[0])
    for number in numbers:
        if below(best, pair(number)):
            best = pair(number)
    return best


def sort_keys(numbers):
    """Integers in the same order as the tuples in a list; they are equal only for equal numbers."""
    # Different numbers with denominators up to m differ by at least 1 / m ** 2,
    # so m ** 2 times these numbers still differ when they are rounded down.
    most = max([number[1] for number in numbers], default=1)
    scale = most * most
    return [number[0] * scale // number[1] for number in numbers]


def in_order(numbers):
    """The numbers ascending, without duplicates."""
    pairs = [pair(number) for number in numbers]
    table = dict(zip(sort_keys(pairs), pairs))
    return [table[key] for key in sorted(table)]


def on_way(a, c, n, d):
    """The number that lies the share n / d of the way from the tuple a to the tuple c."""
    if a == c:
        return a
    start = a[0] * c[1]
    return reduced(start * d + (c[0] * a[1] - start) * n, a[1] * c[1] * d)


def middle(a, b):
    """The number in the middle between two tuples."""
    return on_way(a, b, 1, 2)


def whole_text(n):
    """The text of an integer from 0, also of one with more digits than str takes."""
    block = 10 ** 64
    blocks = []
    while n >= block:
        n, last = divmod(n, block)
        blocks.append(str(last).zfill(BLOCK_DIGITS))
    blocks.append(str(n))
    return "".join(blocks[::-1])


def number_text(a):
    """The text of a number: its integer, or n and d with a slash between."""
    n, d = pair(a)
    sign = "-" if n < 0 else ""
    top = whole_text(abs(n))
    return f"{sign}{top}" if d == 1 else f"{sign}{top}/{whole_text(d)}"
