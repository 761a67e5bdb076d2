"""Polynomials over a field: lists of elements, the lowest coefficient first, without zeros at the end."""


def trimmed(row):
    """A list of elements without the zeros at its end."""
    many = len(row)
    while many > 0 and row[many - 1] == 0:
        many -= 1
    return row[:many]


def plus(f, g):
    """The sum of two polynomials."""
    shared = min(len(f), len(g))
    return trimmed([a ^ b for a, b in zip(f, g)] + f[shared:] + g[shared:])


def times(field, f, g):
    """The product of two polynomials."""
    sums = [0] * (len(f) + len(g))
    for at, a in enumerate(f):
        for place, b in enumerate(g):
            sums[at + place] = sums[at + place] ^ field.times(a, b)
    return trimmed(sums)


def divided(field, f, g):
    """The quotient and the rest of f divided by g."""
    rest = list(f)
    quotient = [0] * max(0, len(f) - len(g) + 1)
    lead = field.inverse(g[-1])
    for at in reversed(range(len(quotient))):
        factor = field.times(rest[at + len(g) - 1], lead)
        quotient[at] = factor
        if factor != 0:
            for place, b in enumerate(g):
                rest[at + place] = rest[at + place] ^ field.times(factor, b)
    return (quotient, trimmed(rest))


def value(field, f, at):
    """The value of a polynomial at an element."""
    told = 0
    for a in reversed(f):
        told = field.times(told, at) ^ a
    return told


def slope(f):
    """The slope of a polynomial."""
    return trimmed([a if place & 1 == 0 else 0 for place, a in enumerate(f[1:])])


def roots(field, f):
    """The ascending list of the roots of a polynomial other than []."""
    return [at for at in range(field.size) if value(field, f, at) == 0]


def through(field, pairs):
    """The polynomial that has the values of pairs of an element and a value, and is not longer than their list."""
    f = []
    # It is 0 at the elements of all pairs so far; so what is added of it changes no value there.
    base = [1]
    for at, told in pairs:
        lack = field.times(told ^ value(field, f, at), field.inverse(value(field, base, at)))
        f = plus(f, times(field, base, trimmed([lack])))
        base = times(field, base, [at, 1])
    return f
