"""Which rooms can be come to, house by house, for ever."""

from likehouses.plans import OUTWARD, Plan, how_far_out, near_houses, nearest
from likehouses.relations import led_to, relations_out, through
from likehouses.stands import first_stand


def _near_lots(street, stand, loops):
    """The lots of the houses from the left side to the right one, the stand's among them, by houses."""
    plan = Plan(street)
    low, high = near_houses(street, stand[0])
    # Ways that lead further out and come back are told by the loops out.
    beyond = {low: loops["left"], high: loops["right"]}
    found = {stand: True}
    waiting = [stand]
    while waiting:
        house, room = waiting.pop()
        goals = [(house + door[2], door[3]) for door in plan.doors_from((house, room))]
        if house in beyond:
            goals = goals + [(house, goal) for goal in beyond[house][room]]
        for goal in goals:
            if low <= goal[0] <= high and goal not in found:
                found[goal] = True
                waiting.append(goal)
    lots = {}
    for house in range(low, high + 1):
        lots[house] = tuple([room for room in plan.rooms_of(house) if (house, room) in found])
    return lots


def _least_stretch(street, house):
    """The first and the last house of the least stretch that a course may have."""
    first = street.first()
    if len(street) == 0:
        return min(house, first - 1), max(house, first)
    return min(house, first), max(house, first + len(street) - 1)


def _going_on(lot, onward):
    """The lots from one on, further and further out: those told once, and those told again and again."""
    lots = []
    while lot not in lots:
        lots.append(lot)
        lot = led_to(lot, onward)
    at = lots.index(lot)
    return lots[:at], lots[at:]


def course(street, stand):
    """The lots of all houses: (first, stretch, left, right)."""
    stand = first_stand(stand)
    relations = {side: relations_out(street, side) for side in ("left", "right")}
    lots = _near_lots(street, stand, {side: relations[side][0] for side in relations})
    low, high = _least_stretch(street, stand[0])
    further = {}
    for side, end in (("left", low), ("right", high)):
        loops, comings = relations[side]
        onward = through(comings, loops)
        house = end + OUTWARD[side]
        # No way from the stretch comes further out but through its last house on the side.
        further[side] = _going_on(lots[house] if house in lots else led_to(lots[end], onward), onward)
    ahead, left = further["left"]
    behind, right = further["right"]
    stretch = ahead[::-1] + [lots[house] for house in range(low, high + 1)] + behind
    return low - len(ahead), stretch, left, right


def lot_at(told, house):
    """The lot of a house, however far, in what is told as a course is."""
    first, stretch, left, right = told
    if house < first:
        return left[(first - 1 - house) % len(left)]
    at = house - first
    if at < len(stretch):
        return stretch[at]
    return right[(at - len(stretch)) % len(right)]


def rooms_at(street, stand, house):
    """The lot of the rooms of a house that can be come to."""
    return lot_at(course(street, stand), house)


def _lots_of_side(street, told, side):
    """The lots of a side's houses in a course, going out: those of its stretch, and those again and again."""
    first, stretch, left, right = told
    near = nearest(street, side) - first
    if side == "left":
        return stretch[:near + 1][::-1], left
    return stretch[near:], right


def _how_many_with(lots, room):
    return len([lot for lot in lots if room in lot])


def houses_with(street, stand, room, side, house):
    """At how many houses of a side, up to one of them, a room can be come to."""
    lots, again = _lots_of_side(street, course(street, stand), side)
    many = how_far_out(street, side, house) + 1
    rounds, over = divmod(max(0, many - len(lots)), len(again))
    return _how_many_with(lots[:many], room) + rounds * _how_many_with(again, room) + _how_many_with(again[:over], room)


def next_with(street, stand, room, side, house):
    """The nearest house of a side, from one of them on, where a room can be come to, or None."""
    told = course(street, stand)
    _, stretch, left, right = told
    # Beyond the stretch one round shows all.
    for k in range(len(stretch) + len(left) + len(right)):
        further = house + OUTWARD[side] * k
        if room in lot_at(told, further):
            return further
    return None
