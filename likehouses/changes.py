"""Streets made of others: walled, told otherwise, moved, turned about, renamed, backward; and where two are unlike."""

from likehouses.bounds import FAR_FIRST, MOST_DOORS, MOST_ODD
from likehouses.errors import NoName, TooFar, TooMany
from likehouses.kinds import is_whole
from likehouses.plans import Plan
from likehouses.streets import Sort, Street, places_of

# One for each door that a sort may have.
_LETTERS = "abcdefghijkl"


def _sorts_of(street):
    """The sorts of its places, in their order."""
    return [street.left()] + street.odd() + [street.right()]


def _made(sorts, first):
    """A street of the sorts of its places, or TooFar."""
    if abs(first) > FAR_FIRST:
        raise TooFar(int(first))
    return Street(sorts[0], first, sorts[1:-1], sorts[-1])


def _number_of(street, place):
    """Which of the street's places this one is, of anything, or NoName."""
    for at, known in enumerate(places_of(street)):
        # A truth is equal to a number, but no place.
        if place == known and is_whole(place) == is_whole(known):
            return at
    raise NoName(place)


def walled(street, place, name):
    """The street without a door at a place, or NoName of the place or of the door's name."""
    at = _number_of(street, place)
    sorts = _sorts_of(street)
    left = [door for door in sorts[at].doors() if door[0] != name]
    if len(left) == len(sorts[at].doors()):
        raise NoName(name)
    sorts[at] = Sort(sorts[at].rooms(), left)
    return _made(sorts, street.first())


def told_out(street, side):
    """The street with one house of a side told as an odd one, or TooMany, or TooFar."""
    if len(street) >= MOST_ODD:
        raise TooMany(MOST_ODD)
    sorts = _sorts_of(street)
    if side == "left":
        return _made(sorts[:1] + sorts, street.first() - 1)
    return _made(sorts + sorts[-1:], street.first())


def folded(street):
    """The street without the odd houses at both ends that are as the side's next to them, or TooFar."""
    left, right, odd = street.left(), street.right(), street.odd()
    first = street.first()
    while odd and odd[0] == left:
        odd = odd[1:]
        first = first + 1
    while odd and odd[-1] == right:
        odd = odd[:-1]
    if not odd and left == right:
        first = 0
    return _made([left] + odd + [right], first)


def moved(street, by):
    """The street so many houses further to the right, or TooFar."""
    return _made(_sorts_of(street), street.first() + by)


def _turned_sort(sort):
    return Sort(sort.rooms(), [(name, room, -move, goal, price) for name, room, move, goal, price in sort.doors()])


def turned(street):
    """The street in which each house x is house -x, or TooFar."""
    return _made([_turned_sort(sort) for sort in _sorts_of(street)[::-1]], 1 - street.first() - len(street))


def _renamed_sort(sort, rooms, doors):
    return Sort([rooms.get(room, room) for room in sort.rooms()],
                [(doors.get(name, name), rooms.get(room, room), move, rooms.get(goal, goal), price)
                 for name, room, move, goal, price in sort.doors()])


def renamed(street, rooms, doors):
    """The street with its rooms and doors named by two dicts; a name that isn't in them stays."""
    return _made([_renamed_sort(sort, rooms, doors) for sort in _sorts_of(street)], street.first())


def _backward_sort(plan, house):
    """The sort of a house with a door back for each door that leads to it, or TooMany."""
    doors = [(goal, -move, room, price)
             for near in (house - 1, house, house + 1)
             for room in plan.rooms_of(near)
             for _, _, move, goal, price in plan.doors_from((near, room)) if near + move == house]
    if len(doors) > MOST_DOORS:
        raise TooMany(MOST_DOORS)
    return Sort(plan.rooms_of(house), [(_LETTERS[k],) + door for k, door in enumerate(sorted(doors))])


def backward(street):
    """The street in which each door that is there leads back, or TooMany, or TooFar."""
    if len(street) + 2 > MOST_ODD:
        raise TooMany(MOST_ODD)
    plan = Plan(street)
    # Doors from an odd house lead to the one next to it: this one is odd now, too.
    first = street.first() - 1
    sorts = [_backward_sort(plan, first + k) for k in range(-1, len(street) + 3)]
    return _made(sorts, first)


def unlike(one, other):
    """The house that is of unlike sorts in both, nearest to 0 and rather above it; None where there is none."""
    ends = [one.first(), one.first() + len(one), other.first(), other.first() + len(other)]
    # Further out than all of these, all houses of a side are alike in both.
    for k in range(max([abs(house) for house in ends]) + 2):
        for house in (k, -k):
            if not one.sort_at(house) == other.sort_at(house):
                return house
    return None
