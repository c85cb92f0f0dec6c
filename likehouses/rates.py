"""What going out on a side for ever costs at the least, by houses, in its sort alone."""

from math import gcd

from likehouses.errors import NoWay
from likehouses.kinds import is_name, is_tuple_of, is_whole
from likehouses.plans import OUTWARD, Plan, alone


def _all_doors(plan, side):
    """The doors that are there of alike houses: (name, room, how many houses out, goal, price)."""
    return [(name, room, OUTWARD[side] * move, goal, price)
            for start in plan.rooms_of(0) for name, room, move, goal, price in plan.doors_from((0, start))]


def _ways_from(doors, room):
    """A way to each room to which some way leads, by these rooms."""
    ways = {room: ()}
    waiting = [room]
    while waiting:
        here = waiting.pop()
        for name, start, _, goal, _ in doors:
            if start == here and goal not in ways:
                ways[goal] = ways[here] + (name,)
                waiting.append(goal)
    return ways


def _rings(doors, begin):
    """All ways from a room back to it that meet no other room twice: (price, houses out, way)."""
    rings = []
    waiting = [(begin, (), 0, 0, ())]
    while waiting:
        here, met, price, houses, way = waiting.pop()
        for name, start, out, goal, more in doors:
            longer = (price + more, houses + out, way + (name,))
            if start == here and goal == begin:
                rings.append(longer)
            elif start == here and goal not in met:
                waiting.append((goal, met + (goal,)) + longer)
    return rings


def _cheapest_round(doors, ways):
    """Of all rounds from these rooms the cheapest by houses: (price, houses, way, round); None without any."""
    # A round that meets a room twice is made of rings, and none of it is
    # cheaper by houses than its cheapest ring that leads out.
    cheapest = None
    for begin in ways:
        for price, houses, ring in _rings(doors, begin):
            if houses > 0 and (cheapest is None or price * cheapest[1] < cheapest[0] * houses):
                cheapest = (price, houses, ways[begin], ring)
    return cheapest


def _by_price(doors, price, houses):
    """What each door may add to its room's number at the most: (room, goal, most)."""
    return [(room, goal, houses * cost - price * out) for _, room, out, goal, cost in doors]


def _by_houses(doors):
    """As _by_price, where numbers tell how many houses out one comes at the most, taken below nought."""
    return [(room, goal, -out) for _, room, out, goal, _ in doors]


def _least_sums(room, steps, many):
    """The least sums of what the steps add from a room on, by rooms, where no ring of steps adds less than nothing."""
    sums = {room: 0}
    # The least sums are those of steps fewer than there are rooms.
    for _ in range(many):
        for start, goal, most in steps:
            if start in sums and (goal not in sums or sums[start] + most < sums[goal]):
                sums[goal] = sums[start] + most
    return sums


def rate(street, side, room):
    """The least price by so many houses, a way and a round of it, and numbers; or that none leads out, and numbers."""
    plan = Plan(alone(street, side))
    doors = _all_doors(plan, side)
    many = len(plan.rooms_of(0))
    cheapest = _cheapest_round(doors, _ways_from(doors, str(room)))
    if cheapest is None:
        sums = _least_sums(str(room), _by_houses(doors), many)
        return "never", {goal: -sums[goal] for goal in sums}
    price, houses, way, ring = cheapest
    common = gcd(price, houses)
    price, houses = price // common, houses // common
    return "price", price, houses, way, ring, _least_sums(str(room), _by_price(doors, price, houses), many)


def _are_numbers(thing, rooms, room):
    """Whether it is a dict from some of these rooms, the told one among them, to whole numbers."""
    if not isinstance(thing, dict) or room not in thing:
        return False
    return all([name in rooms and is_whole(thing[name]) for name in thing])


def _sums_hold(sums, steps):
    """Whether each step from a room with a sum leads to one that has a sum, no greater than what it may be."""
    for room, goal, most in steps:
        if room in sums and (goal not in sums or sums[goal] > sums[room] + most):
            return False
    return True


def _gone(plan, side, room, way):
    """The room where a way of names ends, how many houses out, and its price; None where it can't be gone."""
    if not isinstance(way, tuple) or not all([is_name(step) for step in way]):
        return None
    stand = (0, room)
    price = 0
    try:
        for at, step in enumerate(way):
            stand, more = plan.gone_in_way(stand, step, at)
            price += more
    except NoWay:
        return None
    return stand[1], OUTWARD[side] * stand[0], price


def _is_round_of(plan, side, room, thing):
    """Whether price, houses, way and round of an answer are in order, and the round is just so dear."""
    _, price, houses, way, ring, _ = thing
    if not is_whole(price) or not is_whole(houses) or price < 1 or houses < 1 or gcd(price, houses) != 1:
        return False
    begin = _gone(plan, side, room, way)
    if begin is None:
        return False
    end = _gone(plan, side, begin[0], ring)
    if end is None or end[0] != begin[0] or end[1] < 1:
        return False
    return end[2] * houses == price * end[1]


def is_rate(street, side, room, thing):
    """Whether a thing, of anything, is such an answer as rate tells, and holds."""
    plan = Plan(alone(street, side))
    doors = _all_doors(plan, side)
    if is_tuple_of(thing, 6) and thing[0] == "price":
        if not _is_round_of(plan, side, room, thing) or not _are_numbers(thing[5], plan.rooms_of(0), room):
            return False
        return _sums_hold(thing[5], _by_price(doors, thing[1], thing[2]))
    if is_tuple_of(thing, 2) and thing[0] == "never":
        if not _are_numbers(thing[1], plan.rooms_of(0), room):
            return False
        return _sums_hold({name: -thing[1][name] for name in thing[1]}, _by_houses(doors))
    return False
