"""Of what kind a thing is, whatever it is."""

_LETTERS = "abcdefghijklmnopqrstuvwxyz"
_MOST_LETTERS = 8


def is_whole(thing):
    """Whether it is a whole number: an int that is no truth."""
    return isinstance(thing, int) and not isinstance(thing, bool)


def is_name(thing):
    """Whether it is a text of one to eight small letters."""
    if not isinstance(thing, str) or not 1 <= len(thing) <= _MOST_LETTERS:
        return False
    return all([letter in _LETTERS for letter in thing])


def is_tuple_of(thing, many):
    """Whether it is a tuple of so many parts."""
    return isinstance(thing, tuple) and len(thing) == many
