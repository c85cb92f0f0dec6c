"""Stands: a house and one of its rooms."""

from likehouses.kinds import is_tuple_of, is_whole

# The furthest house of at most twelve figures.
FAR_HOUSE = 10 ** 12 - 1


def is_stand(street, thing):
    """Whether a thing, of anything, is a stand of the street."""
    if not is_tuple_of(thing, 2):
        return False
    house, room = thing
    if not is_whole(house) or abs(house) > FAR_HOUSE:
        return False
    return room in street.sort_at(house).rooms()
