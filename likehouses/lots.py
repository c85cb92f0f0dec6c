"""Lots of doors: which of them, walled together, bar a stand from a first one, and papers that show it."""

from likehouses.changes import walled
from likehouses.courses import rooms_at
from likehouses.errors import NoWay
from likehouses.fences import bars, fence, is_fence
from likehouses.kinds import is_tuple_of
from likehouses.rows import is_rows, rows_gone
from likehouses.stands import first_stand
from likehouses.telling import way_to


def _all_lots(many):
    """All lots of so many doors, each behind those within it."""
    return [tuple([k for k in range(many) if mask >> k & 1 == 1]) for mask in range(1 << many)]


def _refuse_missing(street, doors):
    """NoName of the first of the doors that isn't there."""
    for place, name in doors:
        walled(street, place, name)


def _changed_by(street, doors, lot):
    """The street with the doors of a lot walled."""
    for k in lot:
        place, name = doors[k]
        street = walled(street, place, name)
    return street


def _barring(street, stand, other, doors):
    """Of each lot whether it bars the other stand."""
    house, room = other
    told = {}
    for lot in _all_lots(len(doors)):
        # A door walled gives none: what bars does so with more doors, too.
        less = [told[lot[:at] + lot[at + 1:]] for at in range(len(lot))]
        told[lot] = any(less) or room not in rooms_at(_changed_by(street, doors, lot), stand, house)
    return told


def _with_door(lot, k):
    return tuple(sorted(lot + (k,)))


def lots(street, stand, other, doors):
    """All least lots that bar the other stand, and all greatest that don't."""
    begin = first_stand(stand)
    _refuse_missing(street, doors)
    told = _barring(street, begin, other, doors)
    least = [lot for lot in told if told[lot]
             and not any([told[lot[:at] + lot[at + 1:]] for at in range(len(lot))])]
    greatest = [lot for lot in told if not told[lot]
                and all([told[_with_door(lot, k)] for k in range(len(doors)) if k not in lot])]
    return sorted(least), sorted(greatest)


def lot_paper(street, stand, other, doors, lot):
    """A fence that shows that a lot bars the other stand, or a way in rows that shows that it doesn't."""
    begin = first_stand(stand)
    _refuse_missing(street, doors)
    changed = _changed_by(street, doors, lot)
    told = way_to(changed, begin, other)
    if told is None:
        return "bars", fence(changed, begin)
    _, way = told
    return "not", way


def _leads_to(street, stand, other, thing):
    """Whether a thing is a way in rows from a stand to another one."""
    if not is_rows(thing):
        return False
    try:
        end, _, _ = rows_gone(street, stand, thing)
    except NoWay:
        return False
    return end == other


def lot_holds(street, stand, other, doors, lot, thing):
    """Whether a thing, of anything, is such a paper of a lot, and holds."""
    begin = first_stand(stand)
    _refuse_missing(street, doors)
    changed = _changed_by(street, doors, lot)
    if not is_tuple_of(thing, 2):
        return False
    word, shown = thing
    if word == "bars":
        return is_fence(changed, begin, shown) and bars(shown, other)
    if word == "not":
        return _leads_to(changed, begin, other, shown)
    return False


def _is_within(lot, other):
    return all([k in other for k in lot])


def covers(many, does, fails):
    """Whether each lot has one of the first within it, or is within one of the second, and none both."""
    for lot in _all_lots(many):
        barred = any([_is_within(least, lot) for least in does])
        let_through = any([_is_within(lot, greatest) for greatest in fails])
        if barred == let_through:
            return False
    return True
