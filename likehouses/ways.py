"""Ways: steps done one behind the other, and their texts."""

from likehouses.errors import NoText
from likehouses.kinds import is_name
from likehouses.plans import Plan


def steps(street, other):
    """The names of the doors that can be gone from a stand, rising."""
    return [door[0] for door in Plan(street).doors_from(other)]


def done(street, other, step):
    """The stand behind a step, of anything, and its price, or NoStep."""
    return Plan(street).gone(other, step)


def _gone_through(street, other, way):
    """The stands that a way goes through, the first one among them, and its price, or NoWay."""
    plan = Plan(street)
    house, room = other
    stand = (int(house), str(room))
    stands = [stand]
    total = 0
    for at, step in enumerate(way):
        stand, price = plan.gone_in_way(stand, step, at)
        stands.append(stand)
        total += price
    return stands, total


def played(street, other, way):
    """The stands that a way goes through, the first one among them, or NoWay."""
    stands, _ = _gone_through(street, other, way)
    return stands


def price_of(street, other, way):
    """The sum of the prices of a way's steps, or NoWay."""
    _, total = _gone_through(street, other, way)
    return total


def show_way(way):
    """The text of a way."""
    return ", ".join(way)


def read_way(text):
    """The way that is so written; of anything else NoText with its first part that is no name."""
    if not isinstance(text, str):
        raise NoText(0)
    if text == "":
        return ()
    parts = text.split(", ")
    for at, part in enumerate(parts):
        if not is_name(part):
            raise NoText(at)
    return tuple(parts)
