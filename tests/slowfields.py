"""Fields and words by the words of the document."""

from itertools import product

PRIMITIVE = {2: [7], 3: [11, 13], 4: [19, 25]}
ANY = [None, True, False, 0, 1, -1, "", "words", [], (), {}, [0], ("words",), ("words", 2), 1.0, b"words"]


def carried(a, b, m, poly):
    """The product of two elements, bit by bit."""
    told = 0
    for i in range(b.bit_length()):
        if b >> i & 1:
            told ^= a << i
    while told.bit_length() > m:
        told ^= poly << (told.bit_length() - poly.bit_length())
    return told


def powers(m, poly):
    """The powers of the element 2."""
    told = [1]
    for _ in range(2 ** m - 2):
        told.append(carried(told[-1], 2, m, poly))
    return told


def primitive(m, poly):
    return poly > 0 and poly.bit_length() == m + 1 and sorted(powers(m, poly)) == list(range(1, 2 ** m))


def value_of(m, poly, coefficients, at):
    """The sum of the coefficients times the powers of an element, the lowest one first."""
    told, power = 0, 1
    for a in coefficients:
        told ^= carried(a, power, m, poly)
        power = carried(power, at, m, poly)
    return told


def signs_of(code, row):
    """Point 10.2, word by word."""
    _, m, poly, n, k = code
    return [value_of(m, poly, row[::-1], at) for at in (powers(m, poly) * 2)[1:n - k + 1]]


def words_of(code):
    """All words of a small code, ascending."""
    _, m, _, n, _ = code
    return [list(row) for row in product(range(2 ** m), repeat=n) if not any(signs_of(code, list(row)))]
