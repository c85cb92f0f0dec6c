"""Ways in rows: rows that are read and gone without being unrolled."""

from likehouses.bounds import MOST_ROWS, MOST_SPOTS, MOST_TIMES
from likehouses.errors import NoStep, NoWay, TooMany
from likehouses.kinds import is_name, is_tuple_of, is_whole
from likehouses.plans import OUTWARD, Plan, alone, how_far_out


def _is_part(thing, sides, side):
    """Whether it is a part of one of the rows with these sides, of that side (None: of any)."""
    if not is_tuple_of(thing, 2):
        return False
    number, times = thing
    if not is_whole(number) or not 0 <= number < len(sides):
        return False
    if side is not None and sides[number] != side:
        return False
    return is_whole(times) and 1 <= times <= MOST_TIMES


def are_items(thing, sides, side):
    """Whether it is a list of names and of parts of rows with these sides, of one side alone (None: of any)."""
    if not isinstance(thing, list):
        return False
    return all([is_name(item) or _is_part(item, sides, side) for item in thing])


def is_rows(thing):
    """Whether a thing, of anything, is a way in rows by its forms and numbers."""
    if not is_tuple_of(thing, 2):
        return False
    rows, way = thing
    if not isinstance(rows, list) or len(rows) > MOST_ROWS:
        return False
    sides = []
    for row in rows:
        if not is_tuple_of(row, 2):
            return False
        side, listed = row
        if side not in ("left", "right") or not are_items(listed, sides, side):
            return False
        sides.append(side)
    return are_items(way, sides, None)


# What is read is a tuple (room, shift, near, steps, price), or None where it
# can't be read.


def _read_times(read, room, times):
    """What is read from a room so many times, one behind another."""
    if read is None:
        return None
    goal, shift, near, many, price = read
    if times > 1 and goal != room:
        return None
    # Each time begins where the one ahead ends: the first or the last lies nearest.
    return (goal, shift * times, near + min(0, shift * (times - 1)), many * times, price * times)


def _read_step(plan, out, room, step):
    """A step as it is read, in a plan all of whose houses are alike."""
    try:
        (house, goal), price = plan.gone((0, room), step)
    except NoStep:
        return None
    return (goal, out * house, min(0, out * house), 1, price)


def _read_items(plan, out, reads, listed, room):
    """Items read from a room, one behind another; reads has those of the rows ahead."""
    told = (room, 0, 0, 0, 0)
    for item in listed:
        goal, shift, near, many, price = told
        if isinstance(item, str):
            more = _read_step(plan, out, goal, item)
        else:
            more = _read_times(reads[item[0], goal], goal, item[1])
        if more is None:
            return None
        told = (more[0], shift + more[1], min(near, shift + more[2]), many + more[3], price + more[4])
    return told


def _rows_read(street, rows, side):
    """A dict of what each row of a side is read as from each room, by (number, room)."""
    plan = Plan(alone(street, side))
    reads = {}
    for number, (kind, listed) in enumerate(rows):
        if kind == side:
            for room in plan.rooms_of(0):
                reads[number, room] = _read_items(plan, OUTWARD[side], reads, listed, room)
    return reads


def row_read(street, rows, number, room):
    """What a row is read as from a room: (room, shift, near, steps, price), or None."""
    side, _ = rows[number]
    return _rows_read(street, rows[:number + 1], side)[number, room]


def _part_gone(street, side, stand, read, at):
    """The stand behind a part of a way that is read so, and its price and steps, or NoWay."""
    if read is None:
        raise NoWay(at, "row")
    goal, shift, near, many, price = read
    house, _ = stand
    if how_far_out(street, side, house) + near < 0:
        raise NoWay(at, "border")
    return (house + OUTWARD[side] * shift, goal), price, many


def rows_gone(street, other, thing):
    """The stand where a way in rows ends, how many steps it has, and its price, or NoWay."""
    rows, way = thing
    plan = Plan(street)
    reads = {side: _rows_read(street, rows, side) for side in ("left", "right")}
    house, room = other
    stand = (int(house), str(room))
    total = cost = 0
    for at, item in enumerate(way):
        many = 1
        if isinstance(item, str):
            stand, price = plan.gone_in_way(stand, item, at)
        else:
            number, times = item
            side, _ = rows[number]
            read = _read_times(reads[side].get((number, stand[1])), stand[1], times)
            stand, price, many = _part_gone(street, side, stand, read, at)
        total, cost = total + many, cost + price
    return stand, total, cost


def _with_steps(listed, lean):
    """Items without the parts that have no steps."""
    return [item for item in listed if isinstance(item, str) or lean[item[0]] != []]


def _lean_rows(rows):
    """What each row is made of, without parts that have no steps."""
    lean = []
    for _, listed in rows:
        kept = _with_steps(listed, lean)
        # A row that is another one, once, is taken for that one, so that a
        # long chain of such rows isn't gone down again at each of its steps.
        if len(kept) == 1 and not isinstance(kept[0], str) and kept[0][1] == 1:
            kept = lean[kept[0][0]]
        lean.append(kept)
    return lean


def unrolled(street, other, thing, *, most=MOST_SPOTS):
    """The way of all steps of a way in rows; NoWay, or TooMany where they are more than most."""
    _, many, _ = rows_gone(street, other, thing)
    if many > most:
        raise TooMany(most)
    rows, way = thing
    lean = _lean_rows(rows)
    told = []
    waiting = _with_steps(way, lean)[::-1]
    while waiting:
        item = waiting.pop()
        if isinstance(item, str):
            told.append(str(item))
        else:
            number, times = item
            if times > 1:
                waiting.append((number, times - 1))
            waiting.extend(lean[number][::-1])
    return tuple(told)
