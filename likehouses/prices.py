"""Least prices: of the stands near by, and of going out along a side, house by house.

A row of prices is a dict from rooms of a house to whole numbers, without the
rooms that no way comes to.
"""

from heapq import heappop, heappush

from likehouses.plans import OUTWARD, Plan, alone, near_houses

def least_found(plan, stand, low, high):
    """Of each stand that ways through houses low to high come to: (price, the stand ahead, the step from there)."""
    found = {stand: (0, None, None)}
    waiting = [(0, stand)]
    while waiting:
        price, here = heappop(waiting)
        # A cheaper way to it may have been found since this one was.
        if price == found[here][0]:
            for name, _, move, goal, more in plan.doors_from(here):
                there = (here[0] + move, goal)
                if low <= there[0] <= high and (there not in found or price + more < found[there][0]):
                    found[there] = (price + more, here, name)
                    heappush(waiting, (price + more, there))
    return found


def way_found(found, stand):
    """The steps of the way by which a stand was found."""
    way = []
    _, ahead, step = found[stand]
    while ahead is not None:
        way.append(step)
        _, ahead, step = found[ahead]
    return way[::-1]


def _furthest_out(rooms):
    """How many houses out a cheapest loop out goes at the most, in a sort of these rooms."""
    # In each house between it has a pair of rooms: where it is last ahead of
    # its furthest house, and where it is first behind that. Of two houses with
    # the same pair one could be left out, with all that lies between them.
    return len(rooms) * len(rooms)


def near_found(street, stand):
    """What is found of a first stand, right for the houses that are told: (low, high, found)."""
    low, high = near_houses(street, stand[0])
    plan = Plan(street)
    # Both are houses of their sides.
    least, most = low - _furthest_out(plan.rooms_of(low)), high + _furthest_out(plan.rooms_of(high))
    return low, high, least_found(plan, stand, least, most)


def row_found(found, house, rooms):
    """The row of prices of a house."""
    return {room: found[house, room][0] for room in rooms if (house, room) in found}


def _loops_from(plan, out, room):
    """The cheapest loops out from a room of house 0, by the rooms where they end: (price, way)."""
    low, high = sorted([0, out * _furthest_out(plan.rooms_of(0))])
    found = least_found(plan, (0, room), low, high)
    return {goal: (found[0, goal][0], way_found(found, (0, goal)))
            for goal in plan.rooms_of(0) if (0, goal) in found}


def _cheaper(one, other):
    """Of two dicts from rooms to (price, way), the cheaper of each room."""
    told = dict(one)
    for room in other:
        if room not in told or other[room][0] < told[room][0]:
            told[room] = other[room]
    return told


def strides(street, side):
    """From each room, by where they end: (price, way) of the cheapest door out with a loop out behind it.

    Each way out has such a stride for each house that it leaves for good, so
    least prices go on by them from one house to the next.
    """
    plan = Plan(alone(street, side))
    out = OUTWARD[side]
    loops = {room: _loops_from(plan, out, room) for room in plan.rooms_of(0)}
    told = {}
    for room in loops:
        told[room] = {}
        for name, _, move, goal, price in plan.doors_from((0, room)):
            if move == out:
                behind = loops[goal]
                told[room] = _cheaper(told[room], {last: (price + behind[last][0], [name] + behind[last][1])
                                                   for last in behind})
    return told


def stride_prices(told):
    """The prices of strides alone, by the room where they begin and that where they end."""
    return {room: {goal: told[room][goal][0] for goal in told[room]} for room in told}


def led_on(row, prices):
    """The row of prices to which one leads, by prices from room to room."""
    told = {}
    for room in row:
        for goal in prices[room]:
            price = row[room] + prices[room][goal]
            if goal not in told or price < told[goal]:
                told[goal] = price
    return told


def twice(prices):
    """The least prices from room to room of what is gone twice, one behind the other."""
    return {room: led_on(prices[room], prices) for room in prices}
