"""Whether one can go on for ever from a first stand, where some rooms are shunned."""

from likehouses.errors import Shunned
from likehouses.kinds import is_name, is_tuple_of, is_whole
from likehouses.plans import Plan, how_far_out, near_houses, place_of
from likehouses.stands import first_stand, is_stand


class OpenDoors:
    """The doors that are there and lead into no shunned room."""

    def __init__(self, street, shun):
        self._street = street
        self._plan = Plan(street)
        self._shun = {} if shun is None else dict(shun)

    def shuns(self, stand):
        """Whether the stand's room is shunned in its house."""
        house, room = stand
        return room in self._shun.get(place_of(self._street, house), ())

    def onward(self, stand):
        """The steps from a stand, each with the stand behind it."""
        behind = [(door[0], (stand[0] + door[2], door[3])) for door in self._plan.doors_from(stand)]
        return [(step, goal) for step, goal in behind if not self.shuns(goal)]

    def gone_through(self, stand, way):
        """The stands that a way of names goes through, the first one among them; None where it can't be gone."""
        if not isinstance(way, tuple) or not all([is_name(step) for step in way]):
            return None
        stands = [stand]
        for step in way:
            behind = [goal for name, goal in self.onward(stands[-1]) if name == step]
            if not behind:
                return None
            stands.append(behind[0])
        return stands


def _open_and_begin(street, stand, shun):
    """The open doors and the first stand, or TooFar, or Shunned."""
    begin = first_stand(stand)
    doors = OpenDoors(street, shun)
    if doors.shuns(begin):
        raise Shunned(begin)
    return doors, begin


def _explored(doors, begin, low, high):
    """Of each stand of houses low to high that can be come to its steps onward, and the (step, stand) ahead of it."""
    onward = {}
    ahead = {begin: None}
    waiting = [begin]
    while waiting:
        here = waiting.pop()
        onward[here] = [(step, goal) for step, goal in doors.onward(here) if low <= goal[0] <= high]
        for step, goal in onward[here]:
            if goal not in ahead:
                ahead[goal] = (step, here)
                waiting.append(goal)
    return onward, ahead


def _way_to(ahead, end):
    """The stands of the way by which one was come to, and its steps."""
    stands, way = [end], []
    while ahead[stands[-1]] is not None:
        step, here = ahead[stands[-1]]
        way.append(step)
        stands.append(here)
    return stands[::-1], tuple(way[::-1])


def _going_out(stands, way, edge):
    """A way and a round out of a way that ends further out than its edge by as many houses as there are rooms."""
    last = {}
    for at, (house, _) in enumerate(stands):
        last[house] = at
    end, _ = stands[-1]
    out = 1 if end > edge else -1
    met = {}
    # Once a house is left for the last time, the way is further out. In some
    # two of these houses it is so left from the same room.
    for k in range(abs(end - edge) + 1):
        at = last[edge + out * k]
        _, room = stands[at]
        if room in met:
            return way[:met[room]], way[met[room]:at]
        met[room] = at
    return None


def _most_steps(onward):
    """Of each stand from which no way goes on for ever how many steps the longest way from it has."""
    many = {stand: 0 for stand in onward}
    left = {stand: len(onward[stand]) for stand in onward}
    behind = {stand: [] for stand in onward}
    for stand in onward:
        for _, goal in onward[stand]:
            behind[goal].append(stand)
    ended = [stand for stand in onward if left[stand] == 0]
    told = {}
    while ended:
        goal = ended.pop()
        told[goal] = many[goal]
        for stand in behind[goal]:
            many[stand] = max(many[stand], many[goal] + 1)
            left[stand] -= 1
            if left[stand] == 0:
                ended.append(stand)
    return told


def _circle(onward, begin, ending):
    """A way and a round that ends at the same stand, out of the stands that aren't among the ending ones."""
    places = {}
    way = ()
    here = begin
    while here not in places:
        places[here] = len(way)
        step, here = [(name, goal) for name, goal in onward[here] if goal not in ending][0]
        way = way + (step,)
    return way[:places[here]], way[places[here]:]


def for_ever(street, stand, *, shun=None):
    """A way and a round that can be gone again and again; or stands with numbers that fall by every door."""
    doors, begin = _open_and_begin(street, stand, shun)
    low, high = near_houses(street, begin[0])
    least, most = low - len(street.left().rooms()), high + len(street.right().rooms())
    edges = {least: low, most: high}
    onward, ahead = _explored(doors, begin, least, most)
    for end in ahead:
        if end[0] in edges:
            stands, way = _way_to(ahead, end)
            begun, again = _going_out(stands, way, edges[end[0]])
            return "ever", begun, again
    told = _most_steps(onward)
    if begin not in told:
        begun, again = _circle(onward, begin, told)
        return "ever", begun, again
    return "never", [(here, told[here]) for here in sorted(told)]


def _comes_again(street, stands):
    """Whether a way through these stands can be gone again from its end, and so on for ever."""
    (house, room), end = stands[0], stands[-1]
    if end == stands[0]:
        return True
    if end[1] != room:
        return False
    side = "right" if end[0] > house else "left"
    begin = how_far_out(street, side, house)
    return begin >= 0 and min([how_far_out(street, side, near) for near, _ in stands]) == begin


def _is_round(street, doors, begin, way, again):
    """Whether a way leads from a stand to where a round begins."""
    stands = doors.gone_through(begin, way)
    if stands is None:
        return False
    gone = doors.gone_through(stands[-1], again)
    return gone is not None and len(gone) > 1 and _comes_again(street, gone)


def _numbered(street, thing):
    """A dict from the stands of a list to their numbers; None where the list isn't in order."""
    if not isinstance(thing, list):
        return None
    told = {}
    for pair in thing:
        if not is_tuple_of(pair, 2):
            return None
        stand, number = pair
        if not is_stand(street, stand) or stand in told or not is_whole(number) or number < 0:
            return None
        told[stand] = number
    return told


def _all_fall(doors, told):
    """Whether each door of these stands leads to one of them with a lesser number."""
    for stand in told:
        for _, goal in doors.onward(stand):
            if goal not in told or told[goal] >= told[stand]:
                return False
    return True


def is_ever(street, stand, thing, *, shun=None):
    """Whether a thing, of anything, is such an answer as for_ever tells, and holds."""
    doors, begin = _open_and_begin(street, stand, shun)
    if is_tuple_of(thing, 3) and thing[0] == "ever":
        return _is_round(street, doors, begin, thing[1], thing[2])
    if is_tuple_of(thing, 2) and thing[0] == "never":
        told = _numbered(street, thing[1])
        return told is not None and begin in told and _all_fall(doors, told)
    return False
