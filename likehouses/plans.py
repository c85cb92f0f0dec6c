"""Which doors are there, house by house, and where the sides of a street lie.

A street tells each sort as a copy of its own; a plan keeps one of each, so
that a long way or a wide search needn't copy one at every step.
"""

from likehouses.errors import NoStep, NoWay
from likehouses.kinds import is_name
from likehouses.streets import Street

# Which way is further out on a side.
OUTWARD = {"left": -1, "right": 1}


def nearest(street, side):
    """The house of a side that is next to the odd ones, or to the other side."""
    if side == "left":
        return street.first() - 1
    return street.first() + len(street)


def how_far_out(street, side, house):
    """By how many houses one lies further out than the side's nearest; below 0 where it isn't on the side."""
    return OUTWARD[side] * (house - nearest(street, side))


def place_of(street, house):
    """The place of a house: the word left or right, or an odd house's number."""
    for side in ("left", "right"):
        if how_far_out(street, side, house) >= 0:
            return side
    return house


def near_houses(street, house):
    """The first and the last of the houses from the left side to the right one, a told house among them."""
    return min(house, nearest(street, "left")), max(house, nearest(street, "right"))


def alone(street, side):
    """A street all of whose houses are of a side's sort."""
    sort = street.left() if side == "left" else street.right()
    return Street(sort, 0, [], sort)


class Plan:
    """The rooms and doors of a street's houses, however far."""

    def __init__(self, street):
        self._street = street
        self._left = nearest(street, "left")
        self._right = nearest(street, "right")
        self._tables = {}
        self._there = {}

    def _table(self, house):
        """The rooms of a house's sort, and its doors by their names."""
        # All houses of a side share the table of its nearest one.
        near = min(max(house, self._left), self._right)
        if near not in self._tables:
            sort = self._street.sort_at(near)
            self._tables[near] = (sort.rooms(), {door[0]: door for door in sort.doors()})
        return self._tables[near]

    def rooms_of(self, house):
        """The rooms of a house, rising; not to be changed."""
        rooms, _ = self._table(house)
        return rooms

    def doors_from(self, stand):
        """The doors that are there at a stand, rising by their names; not to be changed."""
        house, room = stand
        # From a side's second house on, the houses about each are of the side's sort.
        near = min(max(house, self._left - 1), self._right + 1)
        if (near, room) not in self._there:
            _, doors = self._table(near)
            self._there[near, room] = [door for door in list(doors.values())
                                       if door[1] == room and door[3] in self.rooms_of(near + door[2])]
        return self._there[near, room]

    def gone(self, stand, step):
        """The stand behind a step and the step's price, or NoStep."""
        house, room = stand
        _, doors = self._table(house)
        if not is_name(step):
            raise NoStep("form")
        if step not in doors:
            raise NoStep("door")
        _, start, move, goal, price = doors[step]
        if start != room:
            raise NoStep("room")
        if goal not in self.rooms_of(house + move):
            raise NoStep("goal")
        return (house + move, goal), price

    def gone_in_way(self, stand, step, at):
        """As gone, of the step at a place of a way: NoWay with that place for NoStep."""
        try:
            return self.gone(stand, step)
        except NoStep as refusal:
            raise NoWay(at, refusal.why) from None
