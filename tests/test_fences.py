"""Fences (points 25 and 26)."""

import copy
import inspect
import random
import re
import unittest

from likehouses import fences
from likehouses.courses import course
from likehouses.errors import TooFar
from likehouses.fences import bars, fence, is_fence
from likehouses.streets import Sort, Street
from tests.samples import (Doors, alike, any_things, chance_street, changed, lots_found, other_forms, ring_sort, shape,
                           spoil, things)

HUGE = 123456789012345678901234567890
ONE = Sort(["a"], [("in", "a", -1, "a", 1), ("out", "a", 1, "a", 1)])
EAST = Sort(["a", "b"], [("out", "a", 1, "a", 1)])
SHUT = Sort(["a", "b"], [])
RING = ring_sort("bca")


def lot_of(told, house):
    """The lot of a house in a fence, by the words of points 23 and 25."""
    first, stretch, left, right = told
    if house < first:
        return left[(first - 1 - house) % len(left)]
    return (stretch[house - first:] or [right[(house - first - len(stretch)) % len(right)]])[0]


def are_lots(thing, least, most):
    if type(thing) is not list or not least <= len(thing) <= most:
        return False
    return all(type(lot) is tuple and all(type(name) is str and re.fullmatch("[a-z]{1,8}", name) for name in lot)
               and sorted(set(lot)) == list(lot) for lot in thing)


def by_words(street, stand, thing):
    """Whether a thing is a fence that is let by, by the words of point 25, each round gone over twice."""
    if type(thing) is not tuple or len(thing) != 4:
        return False
    first, stretch, left, right = thing
    if type(first) is not int or not -999 <= first <= 999:
        return False
    if not are_lots(stretch, 0, 999) or not are_lots(left, 1, 60) or not are_lots(right, 1, 60):
        return False
    doors, behind = Doors(street), first + len(stretch)
    if not all(first <= house < behind for house in range(street.first() - 1, street.first() + len(street) + 1)):
        return False
    if stand[1] not in lot_of(thing, stand[0]):
        return False
    for house in range(first - 2 * len(left) - 1, behind + 2 * len(right) + 1):
        for room in lot_of(thing, house):
            if room not in doors.rooms(house):
                return False
            if any(goal not in lot_of(thing, near) for _, ((near, goal), _) in doors.there(house, room)):
                return False
    return True


def everything(street, first, many, left=1, right=1):
    """The fence that bars no room at all, with so many lots."""
    lots = [tuple(street.sort_at(first + k).rooms()) for k in range(many)]
    return (first, lots, [tuple(street.left().rooms())] * left, [tuple(street.right().rooms())] * right)


def asked():
    """Streets with first stands."""
    street = Street(EAST, 3, [EAST, SHUT, RING], RING)
    pairs = [(street, (house, room)) for house in (-60, 1, 2, 3, 4, 5, 6, 7, 60) for room in street.sort_at(house).rooms()]
    for first in (-50, 0, 50):
        for left, right in ((ONE, ONE), (RING, EAST), (ring_sort("ba", out=-1), ring_sort("bcdeff"))):
            street = Street(left, first, [], right)
            for house in {-60, max(first - 2, -60), first - 1, first, first + 2, 60}:
                pairs += [(street, (house, room)) for room in street.sort_at(house).rooms()]
    for seed in range(80):
        chance, street = random.Random(seed), chance_street(seed, rooms=5)
        house = chance.choice([chance.randint(-60, 60), chance.randint(max(-60, street.first() - 3), street.first() + 3)])
        pairs.append((street, (house, chance.choice(street.sort_at(house).rooms()))))
    return pairs


class Asked(unittest.TestCase):

    def ask(self, street, stand, thing, told=None):
        before = copy.deepcopy(thing)
        told = by_words(street, stand, thing) if told is None else told
        self.assertIs(is_fence(street, stand, thing), told, (street.first(), stand))
        self.assertEqual(shape(thing), shape(before))


class Fence(Asked):

    def test_it_is_let_by(self):
        for street, stand in asked():
            told = fence(street, stand)
            self.ask(street, stand, told, True)
            self.assertTrue(by_words(street, stand, told))

    def test_it_bars_just_what_no_way_comes_to(self):
        for street, stand in asked():
            told = fence(street, stand)
            lots = lots_found(street, stand, -110, 110)
            for house in lots:
                for room in street.sort_at(house).rooms() if house % 7 == 0 or abs(house - stand[0]) < 4 else ():
                    self.assertIs(bars(told, (house, room)), room not in lots[house])
                self.assertEqual(lot_of(told, house), lots[house])

    def test_far_off_too(self):
        for street, stand in asked():
            told, lots = fence(street, stand), lots_found(street, stand, -135, 135)
            for far in (10 ** 12 - 1, 10 ** 12 - 2, 10 ** 11 + 5):
                for house in (far, -far):
                    near = 70 + (far - 70) % 60
                    for room in street.sort_at(house).rooms():
                        self.assertIs(bars(told, (house, room)), room not in lots[near if house > 0 else -near])

    def test_its_form(self):
        for street, stand in asked():
            told = fence(street, stand)
            self.assertEqual([type(part) for part in told], [int, list, list, list])
            self.assertEqual(len({id(part) for part in told[1:]}), 3)
            for lots in told[1:]:
                for lot in lots:
                    self.assertEqual(shape(lot), shape(tuple(sorted(set(lot)))))

    def test_a_told_fence_changed_behind(self):
        for street, stand in asked()[::5]:
            before = fence(street, stand)
            spoil(fence(street, stand))
            fence(street, stand)[1].clear()
            self.assertEqual(fence(street, stand), before)

    def test_one_house_more_than_a_course_on_each_side(self):
        # Here a course ends at the odd houses, and its rounds have several lots.
        left, right = ring_sort("bca", out=-1), ring_sort("bcdea")
        odd = Sort(["a", "c", "e"], [("west", "a", -1, "b", 1), ("east", "a", 1, "d", 1)])
        street = Street(left, 7, [odd], right)
        self.assertEqual(course(street, (7, "a")), (7, [("a",)], [("b",), ("c",), ("a",)],
                                                    [("d",), ("e",), ("a",), ("b",), ("c",)]))
        told = fence(street, (7, "a"))
        self.ask(street, (7, "a"), told, True)
        for house in range(-40, 40):
            for room in street.sort_at(house).rooms():
                self.assertIs(bars(told, (house, room)), room not in lots_found(street, (7, "a"), house, house)[house])
        for stand in ((6, "a"), (8, "a"), (6, "c"), (8, "e")):
            told = fence(street, stand)
            self.ask(street, stand, told, True)


class Bars(Asked):

    def test_stretch_and_rounds(self):
        told = (-2, [("a",), (), ("a", "b")], [("b",), (), ("a",)], [("a",), ("b",)])
        for house, lot in ((-9, "b"), (-8, "a"), (-7, ""), (-6, "b"), (-5, "a"), (-4, ""), (-3, "b"), (-2, "a"), (-1, ""),
                           (0, "ab"), (1, "a"), (2, "b"), (3, "a"), (4, "b")):
            for room in "abc":
                self.assertIs(bars(told, (house, room)), room not in lot, house)
            self.assertEqual("".join(lot_of(told, house)), lot)

    def test_far_off(self):
        told = (-2, [("a",)], [("b",), (), ("a",)], [("a",), ("b",)])
        for far in (3 * 10 ** 11, 3 * HUGE):
            for further, room in ((0, "b"), (2, "a"), (3, "b"), (5, "a")):
                self.assertIs(bars(told, (-3 - far - further, room)), False)
            for further, room in ((0, "a"), (1, "a"), (1, "b"), (2, "b"), (4, "a"), (4, "b")):
                self.assertIs(bars(told, (-3 - far - further, room)), True)
            for further, lot in ((0, "a"), (1, "b"), (2, "a"), (3, "b")):
                for room in "ab":
                    self.assertIs(bars(told, (-1 + 2 * far + further, room)), room != lot)

    def test_an_empty_stretch_or_lot(self):
        self.assertIs(bars((5, [], [("a",)], [("b",)]), (4, "a")), False)
        self.assertIs(bars((5, [], [("a",)], [("b",)]), (5, "a")), True)
        self.assertIs(bars((5, [()], [()], [()]), (5, "a")), True)

    def test_the_fence_is_as_it_was(self):
        told = (-2, [("a",)], [("b",), ()], [("a",), ("b",)])
        before = copy.deepcopy(told)
        for house in range(-9, 9):
            bars(told, (house, "a"))
        self.assertEqual(shape(told), shape(before))


class IsFence(Asked):

    def setUp(self):
        # The fence has the rooms a of the right side from house 1 on, by a ring of three, and none else.
        self.street = Street(EAST, -1, [EAST, RING], RING)
        self.stand = (0, "b")
        self.fence = (-3, [(), (), (), ("b",), ("c",)], [()], [("a",), ("b",), ("c",)])

    def test_let_by(self):
        self.ask(self.street, self.stand, self.fence, True)
        first, stretch, left, right = self.fence
        rounds = [(), ("b",), ("a", "b")]
        for thing in (
                (first, stretch, left * 60, right), (first, stretch, left * 7, right * 20),
                (first, stretch + right, left, right), (first, stretch + right[:1], left, right[1:] + right[:1]),
                (first - 5, [()] * 5 + stretch, left, right), (first + 1, stretch[1:], left, right),
                # More rooms than can be come to.
                (first, [("b",), (), ("b",), ("b",), ("c",)], rounds[:2], right),
                everything(self.street, -9, 20), everything(self.street, -2, 4), everything(self.street, -9, 20, 60, 60),
                (-2, [("b",), (), ("a", "b"), ("b", "c")], [(), ("b",)], [("a", "c"), ("a", "b"), ("b", "c")])):
            self.ask(self.street, self.stand, thing, True)

    def test_each_part_of_another_kind(self):
        first, stretch, left, right = self.fence
        for thing in things() + [HUGE, [first], (first,), str(first), list(left), tuple(left), ((),), [[]], [None], [()]]:
            for parts in ((thing, stretch, left, right), (first, thing, left, right), (first, stretch, thing, right),
                          (first, stretch, left, thing), (first, stretch, left, right, thing), thing):
                self.ask(self.street, self.stand, parts)
        for parts in ([first, stretch, left, right], (first, stretch, left), (first, stretch, left, right, right),
                      (first, tuple(stretch), left, right), (first, stretch, tuple(left), right),
                      (first, stretch, left, tuple(right)), {"first": first}, (first, dict(enumerate(stretch)), left, right)):
            self.ask(self.street, self.stand, parts, False)

    def test_one_thing_otherwise_at_each_place(self):
        def words(part):
            if isinstance(part, str):
                yield from ("a", "b", "c", "d", "", "A", "abcdefghi", 1, None, True, ["a"], ("a",))

        def numbers(part):
            if type(part) is int:
                yield from (part - 1, part + 1, part + 2, -999, -1000, 999, 1000, True, False, None, str(part), [part])

        for change in (other_forms, any_things, words, numbers):
            for thing in changed(self.fence, change):
                self.ask(self.street, self.stand, thing)

    def test_a_truth_for_first(self):
        room = Sort(["a"], [])
        for truth, first in ((True, 2), (False, 1)):
            street = Street(room, first, [], room)
            self.ask(street, (0, "a"), (int(truth), [("a",)] * 3, [("a",)], [("a",)]), True)
            self.ask(street, (0, "a"), (truth, [("a",)] * 3, [("a",)], [("a",)]), False)

    def test_first_and_how_long_the_stretch_is(self):
        street = Street(SHUT, -10, [EAST], SHUT)
        for first, many, told in ((-999, 999, True), (-999, 998, True), (-1000, 999, False), (-1000, 998, False),
                                  (-999, 1000, False), (-998, 999, True), (-998, 1000, False), (-11, 999, True),
                                  (-11, 1000, False), (-11, 3, True), (-5000, 999, False)):
            self.ask(street, (0, "a"), everything(street, first, many), told)
        for first in (998, 999, 1000, HUGE, -HUGE):
            self.ask(street, (0, "a"), everything(street, first, 999), False)

    def test_how_long_rounds_are(self):
        for many, told in ((0, False), (1, True), (2, True), (59, True), (60, True), (61, False), (120, False)):
            self.ask(self.street, self.stand, everything(self.street, -5, 9, many, 1), told)
            self.ask(self.street, self.stand, everything(self.street, -5, 9, 1, many), told)

    def test_lots(self):
        first, stretch, left, right = everything(self.street, -3, 6)
        for lot, told in ((("a", "b"), True), (("b", "a"), False), (("a", "a", "b"), False), (("a", "b", "b"), False),
                          (["a", "b"], False), (("a", "b", "c"), False), (("a", "b", "zz"), False), (("a", "b", None), False),
                          (("a", "b", 1), False), (("a", "b", ("b",)), False), ("ab", False), (None, False)):
            self.ask(self.street, (0, "b"), (first, [lot] + stretch[1:], left, right), told)
            self.ask(self.street, (0, "b"), (first, stretch, [lot], right), told)
            self.ask(self.street, (0, "b"), (first, stretch, left + [lot] + left, right), told)
        for lot, told in ((("a", "b", "c"), True), (("c", "b", "a"), False), (("a", "b", "c", "d"), False),
                          (("a", "b", "b", "c"), False), (["a", "b", "c"], False)):
            self.ask(self.street, (0, "b"), (first, stretch, left, [lot]), told)
            self.ask(self.street, (0, "b"), (first, stretch[:5] + [lot], left, right), told)
            self.ask(self.street, (0, "b"), (first, stretch, left, right + [lot]), told)

    def test_a_room_that_the_house_has_not(self):
        # Room c is one of odd house 0 and of the right side alone.
        rooms = Sort(["a", "c"], [])
        street = Street(SHUT, 0, [rooms, SHUT], rooms)
        full = everything(street, -3, 7, 2, 2)
        self.ask(street, (0, "a"), full, True)
        for part in (1, 2, 3):
            for k, lot in enumerate(full[part]):
                for room in "bcd":
                    thing = copy.deepcopy(full)
                    thing[part][k] = tuple(sorted({*lot, room}))
                    self.ask(street, (0, "a"), thing, room in lot)

    def test_the_stretch_has_the_odd_houses_and_one_more_on_each_side(self):
        for many in (0, 1, 2, 8):
            for first in (-50, -3, 0, 7, 50):
                street = Street(ONE, first, [ONE] * many, ONE)
                stand = (first, "a")
                for begin in range(first - 4, first + 2):
                    for end in range(first + many - 2, first + many + 4):
                        if end >= begin - 1:
                            told = begin <= first - 1 and end >= first + many
                            self.ask(street, stand, everything(street, begin, end - begin + 1), told)

    def test_without_an_odd_house_the_houses_about_first(self):
        street = Street(ONE, 5, [], ONE)
        for first, many, told in ((4, 2, True), (4, 1, False), (5, 1, False), (5, 2, False), (3, 2, False), (3, 3, True),
                                  (4, 3, True), (4, 0, False), (5, 0, False), (0, 5, False), (0, 6, True)):
            self.ask(street, (5, "a"), everything(street, first, many), told)

    def test_the_first_stands_room_in_its_houses_lot(self):
        street = Street(SHUT, 0, [SHUT], SHUT)
        told = (-2, [("a",), ("b",), ("a",), ("a", "b"), ("b",)], [("a",), ("b",), ()], [("b",), (), ("a",)])
        for house, lot in ((-60, "a"), (-2, "a"), (-1, "b"), (0, "a"), (1, "ab"), (2, "b"), (-3, "a"), (-4, "b"), (-5, ""),
                           (-6, "a"), (-7, "b"), (-8, ""), (3, "b"), (4, ""), (5, "a"), (6, "b"), (7, ""), (8, "a"),
                           (60, "b"), (59, "a"), (58, "")):
            for room in "ab":
                self.ask(street, (house, room), told, room in lot)
                self.assertEqual(room in lot, by_words(street, (house, room), told))

    def test_a_door_out_of_the_lots(self):
        # In each house a leads to a within, in and out; one lot without it is one too few.
        both = Sort(["a", "b"], [("in", "a", -1, "a", 1), ("out", "a", 1, "a", 1), ("up", "b", 0, "b", 1)])
        street = Street(both, 0, [both], both)
        full = (-3, [("a", "b")] * 7, [("a", "b")] * 3, [("a", "b")] * 3)
        self.ask(street, (0, "b"), full, True)
        for part in (1, 2, 3):
            for k in range(len(full[part])):
                thing = copy.deepcopy(full)
                thing[part][k] = ("b",)
                self.ask(street, (0, "b"), thing, False)

    def test_a_door_within_a_house(self):
        sort = Sort(["a", "b"], [("up", "a", 0, "b", 1)])
        street = Street(sort, 0, [sort], sort)
        for part, many in ((1, 7), (2, 3), (3, 3)):
            for k in range(many):
                for lot, told in ((("a", "b"), True), (("b",), True), (("a",), False), ((), None)):
                    thing = (-3, [("b",)] * 7, [("b",)] * 3, [("b",)] * 3)
                    thing[part][k] = lot
                    self.ask(street, (20, "b"), thing, told)

    def test_doors_one_way_at_each_place(self):
        # A lot with one room more asks for the lot where the door leads, and for no other.
        for move in (-1, 1):
            sort = Sort(["a", "b"], [("go", "a", move, "b", 1)])
            street = Street(sort, 0, [sort], sort)
            for part in (1, 2, 3):
                for many in (1, 2, 3):
                    base = (-2, [("b",)] * 5, [("b",)] * many, [("b",)] * many)
                    for k in range(len(base[part])):
                        for lot in (("a",), ("a", "b"), ()):
                            for other in range(len(base[part])):
                                thing = copy.deepcopy(base)
                                thing[part][k] = lot
                                self.ask(street, (1, "b"), thing)
                                thing[part][other] = ()
                                self.ask(street, (1, "b"), thing)

    def test_from_a_rounds_end_to_its_begin(self):
        street = alike(RING)
        for rounds, told in (([("a",), ("b",), ("c",)], True), ([("a",), ("b",)], False), ([("a",), ("b",), ("c",), ("a",)], False),
                             ([("a",), ("b",), ("c",)] * 2, True), ([("a",)], False), ([("a", "b", "c")], True),
                             ([("b",), ("c",), ("a",)], False)):
            self.ask(street, (0, "c"), (-1, [(), ("c",)], [()], rounds), told)
        west = alike(ring_sort("bca", out=-1))
        for rounds, told in (([("a",), ("b",), ("c",)], True), ([("a",), ("b",)], False), ([("a",), ("b",), ("c",), ("a",)], False),
                             ([("a",)], False), ([("c",), ("b",), ("a",)], False)):
            self.ask(west, (0, "b"), (-1, [("c",), ("b",)], rounds, [()]), told)
            # From the second round's first lot inward to the first round's last one.
            inward = alike(ring_sort("bca", out=-1))
            back = [(), *rounds[::-1]]
            self.ask(inward, (-1, "a"), (-1, [("a",), ("a", "b", "c")], [("b",), ("c",), ("a",)], back))

    def test_a_door_that_is_not_there_asks_for_nothing(self):
        # Room a's doors lead to rooms that the next sort lacks.
        left, right = Sort(["a"], [("go", "a", 1, "a", 1)]), Sort(["b"], [("go", "b", -1, "b", 1)])
        street = Street(left, 0, [], right)
        self.ask(street, (-1, "a"), (-1, [("a",), ()], [()], [()]), True)
        self.ask(street, (0, "b"), (-1, [(), ("b",)], [()], [()]), True)
        self.ask(street, (0, "b"), (-1, [(), ("b",)], [()], [("b",)]), True)
        self.ask(street, (5, "b"), (-1, [(), ()], [()], [("b",)]), False)

    def test_fences_by_chance_with_one_lot_otherwise(self):
        let_by = 0
        for street, stand in asked()[::2]:
            chance = random.Random(repr(stand))
            told = fence(street, stand)
            for part in (1, 2, 3):
                for k in range(len(told[part])):
                    if part == 1 and len(told[1]) > 12 and chance.random() < 0.8:
                        continue
                    rooms = street.sort_at(told[0] + k if part == 1 else -999 if part == 2 else 999).rooms()
                    thing = copy.deepcopy(told)
                    thing[part][k] = tuple(room for room in rooms if chance.random() < 0.6)
                    let_by += by_words(street, stand, thing)
                    self.ask(street, stand, thing)
        self.assertGreater(let_by, 50)

    def test_things_of_any_kind(self):
        for thing in things() + [[], (), ([],), self.street, (0, [], [], []), (0, [], [()], [()]), (0, [()], [()], [()])]:
            self.assertIs(is_fence(self.street, self.stand, thing), False)


class FirstStands(Asked):

    def test_one_beyond_is_refused_ahead_of_all_else(self):
        street = Street(EAST, 3, [EAST, SHUT, RING], RING)
        for house in (61, -61, 62, 10 ** 12 - 1, 1 - 10 ** 12, HUGE):
            for one, more in ((fence, ()), (is_fence, (None,)), (is_fence, (everything(street, -5, 20),))):
                for room in ("a", "nowhere"):
                    with self.assertRaises(TooFar) as caught:
                        one(street, (house, room), *more)
                    self.assertEqual(shape(vars(caught.exception)), shape({"house": house}))

    def test_sixty_is_near_enough(self):
        street = Street(EAST, 3, [EAST, SHUT, RING], RING)
        for house in (60, -60):
            self.ask(street, (house, "a"), fence(street, (house, "a")), True)


class Interface(unittest.TestCase):

    def test_each_is_defined_in_its_file(self):
        for one, names in ((is_fence, "(street, stand, thing)"), (bars, "(fence, other)"), (fence, "(street, stand)")):
            self.assertEqual(one.__module__, fences.__name__)
            self.assertEqual(str(inspect.signature(one)), names)

    def test_by_names(self):
        told = fence(stand=(0, "a"), street=alike(ONE))
        self.assertIs(is_fence(thing=told, stand=(0, "a"), street=alike(ONE)), True)
        self.assertIs(bars(other=(9, "a"), fence=told), False)

    def test_the_street_is_as_it_was(self):
        street, other = Street(EAST, 3, [EAST, SHUT, RING], RING), Street(EAST, 3, [EAST, SHUT, RING], RING)
        is_fence(street, (3, "a"), fence(street, (3, "a")))
        self.assertEqual(street, other)


if __name__ == "__main__":
    unittest.main()
