"""Words of a code over a field, and how they are mended."""

from heardtrue.errors import ShapeError
from heardtrue.fields import Field, makes_field
from heardtrue.kinds import is_between, is_list_between, is_named
from heardtrue.polynomials import divided, plus, slope, times, trimmed, value


def check_words(code):
    """Raises ShapeError if a thing of any kind is no word code."""
    if not is_named(code, "words", 5):
        raise ShapeError("words")
    _, m, poly, n, k = code
    if not makes_field(m, poly) or not is_between(n, 2, (1 << m) - 1) or not is_between(k, 1, n - 1):
        raise ShapeError("words")


def field_of(code):
    """The field of a word code."""
    return Field(code[1], code[2])


def encode(code, symbols):
    """The word that begins with a list of k symbols."""
    field = field_of(code)
    _, _, _, n, k = code
    # A multiple of this one, and of no lesser one, is 0 at all the powers.
    least = [1]
    for e in range(1, n - k + 1):
        least = times(field, least, [field.power(e), 1])
    _, rest = divided(field, trimmed([0] * (n - k) + symbols[::-1]), least)
    return list(symbols) + (rest + [0] * (n - k - len(rest)))[::-1]


def signs_by(field, code, row):
    """The values of the polynomial of a row at the powers at which that of a word is 0."""
    f = row[::-1]
    return [value(field, f, field.power(e)) for e in range(1, code[3] - code[4] + 1)]


def signs(code, row):
    """The values of point 10.2 for a row of n symbols."""
    return signs_by(field_of(code), code, row)


def is_word(code, row):
    """True if a thing of any kind is a list of n symbols that is a word."""
    if not is_list_between(row, code[3], 0, (1 << code[1]) - 1):
        return False
    return not any(signs(code, row))


def mend(code, heard, gaps):
    """The word that mends a row, the other places at which it differs, and the gaps; or None if no word does."""
    _, _, _, n, k = code
    if len(gaps) > n - k:
        return None
    word = mended(field_of(code), code, heard, gaps)
    if word is None or not is_mended(code, heard, gaps, word):
        return None
    return (word, wrong_places(heard, gaps, word), list(gaps))


def mended(field, code, heard, gaps):
    """The word that mends a row, if there is one; otherwise any row, or None."""
    _, _, _, n, k = code
    spans = trimmed(signs_by(field, code, heard))
    if len(spans) == 0:
        return list(heard)
    known = [1]
    for place in gaps:
        known = times(field, known, [1, field.power(n - 1 - place)])
    locator, sizes = located(field, n - k, len(gaps), trimmed(times(field, known, spans)[:n - k]))
    locator = times(field, locator, known)
    falls = slope(locator)
    word = list(heard)
    for place in range(n):
        # The locator is 0 at the inverses of the powers that belong to gaps and wrong places.
        at = field.power(place + 1 - n)
        if value(field, locator, at) == 0:
            fall = value(field, falls, at)
            if fall == 0:
                return None
            word[place] = word[place] ^ field.times(value(field, sizes, at), field.inverse(fall))
    return word


def located(field, many, gaps, spans):
    """The polynomial whose roots tell the wrong places outside of the gaps, and that of the sizes of what is wrong.

    They are found as the greatest common divisor of two numbers is, but that one stops half-way: as soon as the rest is
    as short as it is if the row can be mended.
    """
    ahead, rest = [0] * many + [1], spans
    before, locator = [], [1]
    while 2 * (len(rest) - 1) >= many + gaps:
        quotient, left = divided(field, ahead, rest)
        ahead, rest = rest, left
        before, locator = locator, plus(before, times(field, quotient, locator))
    return (locator, rest)


def wrong_places(heard, gaps, word):
    """The places outside of the gaps at which a word differs from a row."""
    return [place for place, symbol in enumerate(word) if symbol != heard[place] and place not in gaps]


def is_mended(code, heard, gaps, word):
    """True if a thing of any kind is a word that mends a row."""
    if not is_word(code, word):
        return False
    return 2 * len(wrong_places(heard, gaps, word)) + len(gaps) <= code[3] - code[4]
