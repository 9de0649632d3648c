"""Exact decimal numbers m * 10 ** e, as pairs of integers (m, e)."""

PIECE_DIGITS = 64
PIECE = 10 ** 64


def normal(m, e):
    """The pair of the normal form of m * 10 ** e."""
    if m == 0:
        return (0, 0)
    while m % PIECE == 0:
        m = m // PIECE
        e = e + PIECE_DIGITS
    while m % 10 == 0:
        m = m // 10
        e = e + 1
    return (m, e)


def power(base, many):
    """The integer base to the power of many, which is from 0 on."""
    worth = 1
    while many > 0:
        if many % 2 == 1:
            worth = worth * base
        base = base * base
        many = many // 2
    return worth


def from_binary(m, two):
    """The pair of the normal form of m * 2 ** two."""
    if two >= 0:
        return normal(m * power(2, two), 0)
    return normal(m * power(5, -two), two)


def whole(m, e, most):
    """The integer m * 10 ** e if e is from 0 to most, otherwise None."""
    if 0 <= e <= most:
        return m * power(10, e)
    return None


def digits_of(n):
    """The decimal digits of an integer from 0 on, a string."""
    # Python refuses to turn an integer of more than some 4,300 digits into a string at once.
    pieces = []
    while n >= PIECE:
        n, piece = divmod(n, PIECE)
        pieces.append(str(piece).zfill(PIECE_DIGITS))
    pieces.append(str(n))
    return "".join(reversed(pieces))


def signed_digits(n):
    """The decimal digits of an integer, behind a minus if it is below 0, a string."""
    sign = "-" if n < 0 else ""
    return sign + digits_of(abs(n))


def layout(m, e):
    """The layout of a number in normal form, a string."""
    if m < 0:
        return "-" + _unsigned_layout(-m, e)
    return _unsigned_layout(m, e)


def _unsigned_layout(m, e):
    """The layout of a number from 0 on."""
    digits = digits_of(m)
    ahead = len(digits) + e
    if len(digits) <= ahead <= 21:
        return digits + "0" * e
    if 0 < ahead <= 21:
        return digits[:ahead] + "." + digits[ahead:]
    if -6 < ahead <= 0:
        return "0." + "0" * -ahead + digits
    return _with_point(digits) + _exponent(ahead - 1)


def _with_point(digits):
    """The digits with a point behind the first one, if others follow."""
    if len(digits) == 1:
        return digits
    return digits[0] + "." + digits[1:]


def _exponent(e):
    """The exponent of a layout, which is not 0."""
    sign = "+" if e > 0 else "-"
    return "e" + sign + digits_of(abs(e))
