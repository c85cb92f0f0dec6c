"""Numbers: those below which no way comes to a stand, told for all houses and looked at."""

from likehouses.bounds import FAR_FENCE, MOST_ROUND, MOST_STRETCH
from likehouses.kinds import is_name, is_tuple_of, is_whole
from likehouses.pieces import pieces_out
from likehouses.plans import OUTWARD, Plan, alone, nearest
from likehouses.prices import near_found, row_found, stride_prices, strides
from likehouses.stands import first_stand

_MOST_PIECES = 2000
_MOST_TURNS = 10 ** 30


def _number_in(row, more, time, room):
    if room not in row:
        return None
    if time == 0:
        return int(row[room])
    return int(row[room] + time * more[room])


def number_at(numbers, house, room):
    """The number that a house has by a name, None where it has none."""
    first, stretch, left, right = numbers
    at = house - first
    if 0 <= at < len(stretch):
        return _number_in(stretch[at], {}, 0, room)
    pieces, further = (left, -1 - at) if at < 0 else (right, at - len(stretch))
    for times, rows, more in pieces:
        # The last piece goes on for ever.
        if times is None or further < times * len(rows):
            break
        further = further - times * len(rows)
    time, place = divmod(further, len(rows))
    return _number_in(rows[place], more[place], time, room)


def numbers_of(street, stand):
    """Numbers that are let by for a first stand, the least price of each stand that can be come to."""
    low, high, found = near_found(street, first_stand(stand))
    plan = Plan(street)
    stretch = [row_found(found, house, plan.rooms_of(house)) for house in range(low, high + 1)]
    left = pieces_out(stretch[0], stride_prices(strides(street, "left")))
    right = pieces_out(stretch[-1], stride_prices(strides(street, "right")))
    return low, stretch, left, right


def _is_row(thing):
    """Whether it is a dict from names to whole numbers."""
    return isinstance(thing, dict) and all([is_name(name) and is_whole(thing[name]) for name in thing])


def _are_rows(thing, least, most):
    """Whether it is a list of so many such rows."""
    return isinstance(thing, list) and least <= len(thing) <= most and all([_is_row(row) for row in thing])


def _is_piece(thing, last):
    if not is_tuple_of(thing, 3):
        return False
    times, rows, more = thing
    if last:
        if times is not None:
            return False
    elif not is_whole(times) or not 1 <= times <= _MOST_TURNS:
        return False
    if not _are_rows(rows, 1, MOST_ROUND) or not _are_rows(more, len(rows), len(rows)):
        return False
    return all([sorted(row) == sorted(rise) for row, rise in zip(rows, more)])


def _are_pieces(thing):
    if not isinstance(thing, list) or not 1 <= len(thing) <= _MOST_PIECES:
        return False
    return all([_is_piece(piece, at == len(thing) - 1) for at, piece in enumerate(thing)])


def _has_form(thing):
    """Whether they are numbers, whatever the street."""
    if not is_tuple_of(thing, 4):
        return False
    first, stretch, left, right = thing
    if not is_whole(first) or abs(first) > FAR_FENCE:
        return False
    return _are_rows(stretch, 0, MOST_STRETCH) and _are_pieces(left) and _are_pieces(right)


def _row_at(piece, time):
    """The rows of a piece at one of its times."""
    _, rows, more = piece
    return [{room: row[room] + time * rise[room] for room in row} for row, rise in zip(rows, more)]


def _is_low(row, goal, most):
    """Whether a row has a goal's number, and it is no greater."""
    return goal in row and row[goal] <= most


def _houses_hold(doors, rows):
    """Whether all doors hold that lead from one of these rows, house by house going out, to another one."""
    for at, row in enumerate(rows):
        for room in row:
            for out, goal, price in doors[room]:
                if 0 <= at + out < len(rows) and not _is_low(rows[at + out], goal, row[room] + price):
                    return False
    return True


def _growth_holds(doors, more):
    """Whether what is added each time keeps the doors within a round for ever, those from its end to its begin, too."""
    for at, row in enumerate(more):
        for room in row:
            for out, goal, _ in doors[room]:
                if more[(at + out) % len(more)][goal] > row[room]:
                    return False
    return True


def _side_holds(doors, edge, pieces):
    """Whether pieces hold, going out behind the stretch's last row on their side."""
    if not all([room in doors for _, rows, _ in pieces for row in rows for room in row]):
        return False
    near = [edge]
    # What is between a piece's first two and its last two times lies evenly between these.
    for piece in pieces[:-1]:
        times, _, _ = piece
        near.extend(_row_at(piece, 0))
        if times > 1:
            near.extend(_row_at(piece, 1))
        if times > 2:
            if not _houses_hold(doors, near):
                return False
            near = _row_at(piece, times - 2) + _row_at(piece, times - 1)
    _, _, more = pieces[-1]
    near = near + _row_at(pieces[-1], 0) + _row_at(pieces[-1], 1)
    return _houses_hold(doors, near) and _growth_holds(doors, more)


def _stretch_holds(plan, thing):
    """Whether the stretch's rows hold, of their houses' rooms alone, the next rows on both sides as they are."""
    first, stretch, left, right = thing
    rows = [left[0][1][0]] + stretch + [right[0][1][0]]
    for at, row in enumerate(stretch):
        rooms = plan.rooms_of(first + at)
        for room in row:
            if room not in rooms:
                return False
            for _, _, move, goal, price in plan.doors_from((first + at, room)):
                if not _is_low(rows[at + 1 + move], goal, row[room] + price):
                    return False
    return True


def _doors_out(street, side):
    """From each room of a side's sort, the doors that are there: (how many houses out, goal, price)."""
    plan = Plan(alone(street, side))
    return {room: [(OUTWARD[side] * move, goal, price) for _, _, move, goal, price in plan.doors_from((0, room))]
            for room in plan.rooms_of(0)}


def are_numbers(street, stand, thing):
    """Whether a thing, of anything, is numbers that are let by for a first stand."""
    house, room = first_stand(stand)
    if not _has_form(thing):
        return False
    first, stretch, left, right = thing
    if first > nearest(street, "left") or first + len(stretch) <= nearest(street, "right"):
        return False
    number = number_at(thing, house, room)
    if number is None or number > 0 or not _stretch_holds(Plan(street), thing):
        return False
    return (_side_holds(_doors_out(street, "left"), stretch[0], left)
            and _side_holds(_doors_out(street, "right"), stretch[-1], right))
