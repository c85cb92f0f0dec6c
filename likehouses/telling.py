"""Ways of the least price, told in rows, however far the other stand is."""

from likehouses.plans import OUTWARD
from likehouses.prices import led_on, near_found, stride_prices, strides, twice, way_found
from likehouses.stands import first_stand


class Leaps:
    """The least prices of 1, 2, 4, 8 .. strides out on a side, and rows of ways of just these prices."""

    def __init__(self, street, side):
        self._side = side
        self._strides = strides(street, side)
        self._prices = [stride_prices(self._strides)]
        self._rows = []
        self._numbers = {}

    def prices(self, power):
        """The least prices, from room to room, of so many strides as 2 with this power."""
        while len(self._prices) <= power:
            self._prices.append(twice(self._prices[-1]))
        return self._prices[power]

    def row(self, power, room, goal):
        """The number of the row of a cheapest way of so many strides, made where there is none yet."""
        asked = (power, room, goal)
        if asked not in self._numbers:
            listed = self._listed(power, room, goal)
            self._numbers[asked] = len(self._rows)
            self._rows.append((self._side, listed))
        return self._numbers[asked]

    def _listed(self, power, room, goal):
        if power == 0:
            _, way = self._strides[room][goal]
            return way
        half = self.prices(power - 1)
        amid = room_ahead(half[room], half, goal)
        return [(self.row(power - 1, room, amid), 1), (self.row(power - 1, amid, goal), 1)]

    def rows(self):
        """The rows made so far, each behind those that it is made of."""
        return self._rows


def room_ahead(row, prices, goal):
    """A room by which a row of prices leads on to a goal at the least price."""
    return min([room for room in row if goal in prices[room]], key=lambda near: row[near] + prices[near][goal])


def _far_way(leaps, row, houses, goal):
    """From a row of prices, so many houses further out: (price, the room of the row, parts), or None."""
    powers = [power for power in range(houses.bit_length()) if houses >> power & 1 == 1]
    reached = [row]
    for power in powers:
        reached.append(led_on(reached[-1], leaps.prices(power)))
    if goal not in reached[-1]:
        return None
    price = reached[-1][goal]
    parts = []
    for k in reversed(range(len(powers))):
        room = room_ahead(reached[k], leaps.prices(powers[k]), goal)
        parts.append((leaps.row(powers[k], room, goal), 1))
        goal = room
    return price, goal, parts[::-1]


def way_to(street, stand, other):
    """The least price of all ways from a first stand to another one, and a way in rows of it; None without a way."""
    low, high, found = near_found(street, first_stand(stand))
    house, room = other
    if low <= house <= high:
        if (house, room) not in found:
            return None
        return found[house, room][0], ([], way_found(found, (house, room)))
    side, edge = ("left", low) if house < low else ("right", high)
    row = {goal: found[near, goal][0] for near, goal in found if near == edge}
    leaps = Leaps(street, side)
    told = _far_way(leaps, row, OUTWARD[side] * (house - edge), room)
    if told is None:
        return None
    price, begin, parts = told
    return price, (leaps.rows(), way_found(found, (edge, begin)) + parts)
