"""What leads where along a side, of its sort alone: loops out, first comings, powers.

A relation is kept as a dict from each room of the sort, rising, to the lot of
the rooms that it leads to. A lot is a tuple of rooms, rising.
"""

from likehouses.plans import OUTWARD, Plan, alone


def led_to(lot, relation):
    """The lot that the rooms of a lot lead to."""
    return tuple(sorted({goal for room in lot for goal in relation[room]}))


def through(one, other):
    """The relation of one and the other behind it."""
    return {room: led_to(one[room], other) for room in one}


def _either(one, other):
    return {room: tuple(sorted(set(one[room]) | set(other[room]))) for room in one}


def _doors_leading(plan, move):
    """The relation of the doors that are there and lead by this move, in a plan of alike houses."""
    relation = {}
    for room in plan.rooms_of(0):
        relation[room] = tuple(sorted({door[3] for door in plan.doors_from((0, room)) if door[2] == move}))
    return relation


def _wider(loops, within, outward, inward):
    """The loops with those that are made of them, of doors within a house, and of loops in the next one."""
    detours = through(through(outward, loops), inward)
    return _either(loops, through(loops, _either(within, detours)))


def relations_out(street, side):
    """The relations of the loops out and of the first comings of a side."""
    plan = Plan(alone(street, side))
    within = _doors_leading(plan, 0)
    outward = _doors_leading(plan, OUTWARD[side])
    inward = _doors_leading(plan, -OUTWARD[side])
    loops = {room: (room,) for room in within}
    wider = _wider(loops, within, outward, inward)
    while wider != loops:
        loops = wider
        wider = _wider(loops, within, outward, inward)
    return loops, through(loops, outward)


def _pairs(relation):
    return [(room, goal) for room in relation for goal in relation[room]]


def loops_out(street, side):
    """The pairs of rooms of one house between which a way leads that is never further in."""
    loops, _ = relations_out(street, side)
    return _pairs(loops)


def first_comings(street, side):
    """The pairs of rooms such that a loop out and a door lead from the one to the other a house further out."""
    _, comings = relations_out(street, side)
    return _pairs(comings)


def power(street, side, many):
    """The pairs of rooms that so many first comings lead between."""
    loops, comings = relations_out(street, side)
    told = {room: (room,) for room in loops}
    square = comings
    left = many
    while left > 0:
        if left & 1 == 1:
            told = through(told, square)
        square = through(square, square)
        left = left >> 1
    return _pairs(told)


def comes_again(street, side):
    """From which power on they come again and again, and by how many: (ahead, round)."""
    _, comings = relations_out(street, side)
    powers = []
    last = comings
    while last not in powers:
        powers.append(last)
        last = through(last, comings)
    at = powers.index(last)
    return at + 1, len(powers) - at
