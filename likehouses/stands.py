"""Stands: a house and one of its rooms; and first stands, which lie near."""

from likehouses.bounds import FAR_STAND
from likehouses.errors import TooFar
from likehouses.kinds import is_tuple_of, is_whole

# The furthest house of at most twelve figures.
FAR_HOUSE = 10 ** 12 - 1


def is_stand(street, thing):
    """Whether a thing, of anything, is a stand of the street."""
    if not is_tuple_of(thing, 2):
        return False
    house, room = thing
    if not is_whole(house) or abs(house) > FAR_HOUSE:
        return False
    return room in street.sort_at(house).rooms()


def first_stand(stand):
    """The house and the room of a first stand; TooFar where it is beyond."""
    house, room = stand
    if abs(house) > FAR_STAND:
        raise TooFar(int(house))
    return int(house), str(room)
