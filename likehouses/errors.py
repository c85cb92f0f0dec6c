"""The refusals, each straight under an error of Python's own.

Their fields tell what was refused; they are copies, so that a list changed
behind a refusal doesn't change what it tells.
"""


def _copied(thing):
    if isinstance(thing, list):
        return [_copied(part) for part in thing]
    if isinstance(thing, tuple):
        return tuple([_copied(part) for part in thing])
    if isinstance(thing, dict):
        return {key: _copied(thing[key]) for key in thing}
    return thing


# Each base is handed a message of its own: without one Python would keep what
# the refusal was made of, uncopied, and show it differently by names.


class NoText(ValueError):
    """A text that is none of those that are read; row is the first wrong row."""

    def __init__(self, row):
        ValueError.__init__(self, "no such text: see its row")
        self.row = _copied(row)


class NoStep(ValueError):
    """A step that can't be done, and why."""

    def __init__(self, why):
        ValueError.__init__(self, "no such step: see its why")
        self.why = _copied(why)


class NoWay(ValueError):
    """A way that can't be gone: the place of its first wrong part, and why."""

    def __init__(self, at, why):
        ValueError.__init__(self, "no such way: see its at and its why")
        self.at = _copied(at)
        self.why = _copied(why)


class Shunned(ValueError):
    """A first stand whose room is shunned."""

    def __init__(self, stand):
        ValueError.__init__(self, "a shunned room: see its stand")
        self.stand = _copied(stand)


class NoName(KeyError):
    """A place or a door that isn't there."""

    def __init__(self, asked):
        KeyError.__init__(self, "no such name: see its asked")
        self.asked = _copied(asked)


class NoMoment(IndexError):
    """A moment that a walk doesn't have."""

    def __init__(self, asked):
        IndexError.__init__(self, "no such moment: see its asked")
        self.asked = _copied(asked)


class NoMore(LookupError):
    """No act is left to take back or to do again, as the word tells."""

    def __init__(self, word):
        LookupError.__init__(self, "no more acts: see its word")
        self.word = _copied(word)


class TooFar(OverflowError):
    """A house, or a street's first, that is too far out."""

    def __init__(self, house):
        OverflowError.__init__(self, "too far: see its house")
        self.house = _copied(house)


class TooMany(OverflowError):
    """More of something than the most that may be."""

    def __init__(self, most):
        OverflowError.__init__(self, "too many: see its most")
        self.most = _copied(most)
