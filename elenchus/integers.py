"""Integers, as the document means them."""


def is_integer(value):
    """Return True for an integer; True and False are none here."""
    return isinstance(value, int) and not isinstance(value, bool)
