"""Fences: lots that no door leads out of, and that so bar all other stands."""

from likehouses.bounds import FAR_FENCE, MOST_ROUND, MOST_STRETCH
from likehouses.courses import course, lot_at
from likehouses.kinds import is_name, is_tuple_of, is_whole
from likehouses.plans import Plan, nearest
from likehouses.stands import first_stand


def _is_lot(thing):
    """Whether it is a tuple of names, rising, unlike."""
    if not isinstance(thing, tuple) or not all([is_name(room) for room in thing]):
        return False
    return list(thing) == sorted(set(thing))


def _are_lots(thing, least, most):
    """Whether it is a list of so many lots."""
    if not isinstance(thing, list) or not least <= len(thing) <= most:
        return False
    return all([_is_lot(lot) for lot in thing])


def _has_form(thing):
    """Whether it is a fence, whatever the street."""
    if not is_tuple_of(thing, 4):
        return False
    first, stretch, left, right = thing
    if not is_whole(first) or abs(first) > FAR_FENCE:
        return False
    return _are_lots(stretch, 0, MOST_STRETCH) and _are_lots(left, 1, MOST_ROUND) and _are_lots(right, 1, MOST_ROUND)


def _lets_none_out(plan, told, house):
    """Whether a house's lot has rooms of the house alone, and no door leads from them out of the lots."""
    rooms = plan.rooms_of(house)
    for room in lot_at(told, house):
        if room not in rooms:
            return False
        for door in plan.doors_from((house, room)):
            if door[3] not in lot_at(told, house + door[2]):
                return False
    return True


def is_fence(street, stand, thing):
    """Whether a thing, of anything, is a fence that is let by for a first stand."""
    house, room = first_stand(stand)
    if not _has_form(thing):
        return False
    first, stretch, left, right = thing
    behind = first + len(stretch)
    if first > nearest(street, "left") or behind <= nearest(street, "right") or room not in lot_at(thing, house):
        return False
    plan = Plan(street)
    # Of each round one time and a house more: there all doors between its lots
    # are met, those from its end to its begin, too.
    for near in range(first - len(left) - 1, behind + len(right) + 1):
        if not _lets_none_out(plan, thing, near):
            return False
    return True


def bars(fence, other):
    """Whether a fence that is let by bars a stand."""
    house, room = other
    return room not in lot_at(fence, house)


def fence(street, stand):
    """A fence that is let by and bars just what no way comes to."""
    first, stretch, left, right = course(street, stand)
    # A course may end at the odd houses; a fence has one house more on each side.
    if first > nearest(street, "left"):
        first, stretch, left = first - 1, left[:1] + stretch, left[1:] + left[:1]
    if first + len(stretch) <= nearest(street, "right"):
        stretch, right = stretch + right[:1], right[1:] + right[:1]
    return first, stretch, left, right
