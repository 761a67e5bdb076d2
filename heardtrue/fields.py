"""Fields whose elements are the numbers of so many bits."""

from heardtrue.errors import ShapeError
from heardtrue.kinds import is_between, is_integer


def powers_of_two(m, poly):
    """The powers of the element 2, from the exponent 0 on, as many as there are elements but 0."""
    powers = [1]
    while len(powers) < (1 << m) - 1:
        double = powers[-1] << 1
        powers.append(double if double < 1 << m else double ^ poly)
    return powers


def is_primitive(m, poly):
    """True if the powers of the element 2 are all elements but 0, each once."""
    # A number that is not negative has just as many bits as bit_length tells; of a negative one the sign would count.
    if poly < 0 or poly.bit_length() != m + 1:
        return False
    return sorted(powers_of_two(m, poly)) == list(range(1, 1 << m))


def makes_field(m, poly):
    """True if two things of any kind are the numbers of a field."""
    return is_between(m, 2, 8) and is_integer(poly) and is_primitive(m, poly)


class Field:
    """The field of the elements with m bits, by a primitive number."""

    def __init__(self, m, poly):
        if not makes_field(m, poly):
            raise ShapeError("field")
        self.m = m
        self.poly = poly
        self.size = 1 << m
        self.powers = powers_of_two(m, poly)
        self.places = {a: place for place, a in enumerate(self.powers)}

    def times(self, a, b):
        """The product of two elements."""
        if a == 0 or b == 0:
            return 0
        return self.power(self.places[a] + self.places[b])

    def inverse(self, a):
        """The element whose product with this one is 1; it is not 0."""
        return self.power(-self.places[a])

    def power(self, e):
        """The element 2 to the power e, for any integer."""
        return self.powers[e % len(self.powers)]

    def place(self, a):
        """The exponent for which an element other than 0 is that power of 2."""
        return self.places[a]
