"""A walk: what is done in a street from a first stand on, taken back, and done again."""

from likehouses.changes import told_out, walled
from likehouses.courses import rooms_at
from likehouses.errors import NoMoment, NoMore, TooFar
from likehouses.kinds import is_whole
from likehouses.rows import rows_gone
from likehouses.stands import FAR_HOUSE, first_stand
from likehouses.streets import Street
from likehouses.telling import way_to
from likehouses.ways import done


def _same_street(street):
    return Street(street.left(), street.first(), street.odd(), street.right())


def _same_items(listed):
    return [str(item) if isinstance(item, str) else (int(item[0]), int(item[1])) for item in listed]


def _same_way(way):
    """A copy of a way in rows."""
    rows, listed = way
    return [(str(side), _same_items(row)) for side, row in rows], _same_items(listed)


def _same_act(act):
    """A copy of an act, whose lists are the asker's own."""
    if act[0] == "leap":
        return "leap", _same_way(act[1])
    return act


def _near_enough(stand):
    """The stand where an act ends, or TooFar."""
    house, _ = stand
    if abs(house) > FAR_HOUSE:
        raise TooFar(house)
    return stand


class Walk:
    """A walk in a street from a first stand on, and how it changed the street."""

    def __init__(self, street, stand):
        begin = first_stand(stand)
        self._acts = []
        # What is so at each moment: (street, stand, steps, price).
        self._moments = [(_same_street(street), begin, 0, 0)]
        # Acts taken back, the last one last, each with the moment behind it.
        self._taken = []

    def __eq__(self, other):
        return isinstance(other, Walk) and self._acts == other._acts and self._moments[0] == other._moments[0]

    def _add(self, act, moment):
        self._acts.append(act)
        self._moments.append(moment)
        self._taken = []

    def do(self, step):
        """Do a step; NoStep, or TooFar."""
        street, stand, steps, price = self._moments[-1]
        goal, more = done(street, stand, step)
        self._add(("do", str(step)), (street, _near_enough(goal), steps + 1, price + more))

    def leap(self, way):
        """Go a way in rows; NoWay, or TooFar."""
        street, stand, steps, price = self._moments[-1]
        goal, many, more = rows_gone(street, stand, way)
        self._add(("leap", _same_way(way)), (street, _near_enough(goal), steps + many, price + more))

    def wall(self, place, name):
        """Wall a door at a place; NoName."""
        street, stand, steps, price = self._moments[-1]
        changed = walled(street, place, name)
        kept = str(place) if isinstance(place, str) else int(place)
        self._add(("wall", kept, str(name)), (changed, stand, steps, price))

    def out(self, side):
        """Tell a house of a side as an odd one; TooMany, or TooFar."""
        street, stand, steps, price = self._moments[-1]
        self._add(("out", str(side)), (told_out(street, side), stand, steps, price))

    def back(self):
        """Take back the last act, which is told; NoMore."""
        if not self._acts:
            raise NoMore("back")
        act = self._acts.pop()
        self._taken.append((act, self._moments.pop()))
        return _same_act(act)

    def on(self):
        """Do the act again that was taken back last, which is told; NoMore."""
        if not self._taken:
            raise NoMore("on")
        act, moment = self._taken.pop()
        self._acts.append(act)
        self._moments.append(moment)
        return _same_act(act)

    def _at(self, moment):
        """What is so at a moment, None for now; NoMoment of anything else."""
        if moment is None:
            return self._moments[-1]
        if not is_whole(moment) or not 0 <= moment < len(self._moments):
            raise NoMoment(moment)
        return self._moments[moment]

    def street_at(self, *, moment=None):
        """The street at a moment, None for now; NoMoment."""
        street, _, _, _ = self._at(moment)
        return _same_street(street)

    def stand_at(self, *, moment=None):
        """The stand at a moment, None for now; NoMoment."""
        _, stand, _, _ = self._at(moment)
        return stand

    def steps_at(self, *, moment=None):
        """Of how many steps all was that was done till a moment, None for now; NoMoment."""
        _, _, steps, _ = self._at(moment)
        return steps

    def price_at(self, *, moment=None):
        """At which price all was done that was done till a moment, None for now; NoMoment."""
        _, _, _, price = self._at(moment)
        return price

    def acts(self):
        """The acts that stand, in their order."""
        return [_same_act(act) for act in self._acts]

    def can(self, other):
        """Whether one can come to a stand from now on; TooFar where the present one is no first stand."""
        street, stand, _, _ = self._moments[-1]
        begin = first_stand(stand)
        house, room = other
        return room in rooms_at(street, begin, house)

    def cheapest(self, other):
        """What way_to tells from now on; TooFar where the present stand is no first one."""
        street, stand, _, _ = self._moments[-1]
        return way_to(street, stand, other)
