"""Looks at things of any kind."""


def is_integer(thing):
    """True for an integer; True and False are none."""
    return isinstance(thing, int) and not isinstance(thing, bool)


def is_between(thing, low, high):
    """True for an integer from low to high."""
    return is_integer(thing) and low <= thing <= high


def is_tuple(thing, many):
    """True for a tuple of so many things."""
    return isinstance(thing, tuple) and len(thing) == many


def is_list(thing, many):
    """True for a list of so many things."""
    return isinstance(thing, list) and len(thing) == many


def is_tuple_between(thing, many, low, high):
    """True for a tuple of so many integers from low to high."""
    return is_tuple(thing, many) and all([is_between(item, low, high) for item in thing])


def is_word(thing, word):
    """True for just this string."""
    return isinstance(thing, str) and thing == word


def is_named(thing, name, many):
    """True for a tuple of so many things whose first one is a name."""
    return is_tuple(thing, many) and many > 0 and is_word(thing[0], name)


def is_list_between(thing, many, low, high):
    """True for a list of so many integers from low to high."""
    return is_list(thing, many) and all([is_between(item, low, high) for item in thing])


def is_point(thing):
    """True for a pair of integers."""
    return is_tuple(thing, 2) and is_integer(thing[0]) and is_integer(thing[1])
