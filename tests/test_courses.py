"""What can be come to (points 22 to 24), and first stands (point 13)."""

import functools
import inspect
import random
import unittest

from likehouses import courses
from likehouses.courses import course, houses_with, next_with, rooms_at
from likehouses.errors import TooFar
from likehouses.streets import Sort, Street
from tests.samples import alike, chance_street, lots_found, ring_sort, shape, spoil

HUGE = 123456789012345678901234567890
ONE = Sort(["a"], [("in", "a", -1, "a", 1), ("out", "a", 1, "a", 1)])
EAST = Sort(["a"], [("out", "a", 1, "a", 1)])
SHUT = Sort(["a", "b"], [])


def rings():
    """Sides on which rooms come again by six and by five, behind some that come but once; ways lead over the odd ones."""
    right = ring_sort("bcdefb")
    left = ring_sort("bcdeac", out=-1)
    odd = Sort(["a", "b", "f"], [("ea", "a", 1, "b", 1), ("eb", "b", 1, "a", 1), ("wa", "a", -1, "f", 1),
                                 ("wb", "f", -1, "a", 1)])
    return Street(left, -1, [odd, odd], right)


def out_and_in():
    """From house 0 one comes to its room h only far out on the right, and over the odd houses far out on the left."""
    right = Sort(["a", "b", "c", "d", "e"], [("oa", "a", 1, "b", 1), ("ob", "b", 1, "c", 1), ("oc", "c", 1, "d", 1),
                                             ("ia", "d", -1, "e", 1), ("ib", "e", -1, "e", 1)])
    odd = Sort(["a", "e", "h"], [("oa", "a", 1, "a", 1), ("ib", "e", -1, "e", 1), ("up", "h", 1, "h", 1)])
    left = Sort(["e", "f", "g", "h"], [("oe", "e", -1, "f", 1), ("of", "f", -1, "g", 1), ("ig", "g", 1, "h", 1),
                                       ("ih", "h", 1, "h", 1)])
    return Street(left, 0, [odd, odd], right)


@functools.cache
def asked():
    """Streets with first stands, those of the issue and others by chance."""
    pairs = []
    for odd in ([], [SHUT], [EAST, ONE], [ONE] * 8):
        for first, left, right in ((-50, ONE, ONE), (0, EAST, ring_sort("bca")), (50, ring_sort("ba", out=-1), SHUT)):
            street = Street(left, first, odd, right)
            for house in (-60, 60, first - 2, first - 1, first, first + len(odd), first + len(odd) + 1):
                if -60 <= house <= 60:
                    pairs += [(street, (house, room)) for room in street.sort_at(house).rooms()]
    for street in (rings(), out_and_in()):
        for house in (-60, -3, -2, -1, 0, 1, 2, 9, 60):
            pairs += [(street, (house, room)) for room in street.sort_at(house).rooms()]
    for seed in range(70):
        chance, street = random.Random(seed), chance_street(seed, rooms=5)
        first, behind = street.first(), street.first() + len(street)
        for house in {chance.randint(-60, 60), chance.randint(first - 2, behind + 1), chance.choice([-60, 60])}:
            if -60 <= house <= 60:
                pairs.append((street, (house, chance.choice(street.sort_at(house).rooms()))))
    return pairs


@functools.cache
def found():
    """For each of them all lots by a search, far beyond all that comes but once."""
    return [lots_found(street, stand, -130, 130) for street, stand in asked()]


def read_course(told, house):
    """The lot of a house in a course, by the words of point 23."""
    first, stretch, left, right = told
    if house < first:
        further = first - 1 - house
        return left[further - further // len(left) * len(left)]
    if house < first + len(stretch):
        return stretch[house - first]
    further = house - first - len(stretch)
    return right[further - further // len(right) * len(right)]


def least_stretch(street, stand):
    houses = [stand[0], *range(street.first(), street.first() + len(street))]
    if len(street) == 0:
        houses += [street.first() - 1, street.first()]
    return min(houses), max(houses)


class Course(unittest.TestCase):

    def test_against_a_search(self):
        for (street, stand), lots in zip(asked(), found()):
            told = course(street, stand)
            self.assertEqual({house: read_course(told, house) for house in lots}, lots, (stand, street.first()))

    def test_its_form(self):
        for street, stand in asked():
            told = course(street, stand)
            self.assertIs(type(told), tuple)
            self.assertEqual([type(part) for part in told], [int, list, list, list])
            for lot in told[1] + told[2] + told[3]:
                self.assertEqual(shape(lot), shape(tuple(sorted(set(lot)))))
            self.assertGreaterEqual(min(len(told[2]), len(told[3])), 1)
            self.assertEqual(len({id(part) for part in told[1:]}), 3)

    def test_the_stretch_has_what_it_must_and_not_one_house_more(self):
        for street, stand in asked():
            first, stretch, left, right = course(street, stand)
            low, high = least_stretch(street, stand)
            self.assertLessEqual(first, low)
            self.assertGreaterEqual(first + len(stretch) - 1, high)
            # A house more on a side comes but once: else it were the last one of the round put ahead.
            self.assertTrue(first == low or stretch[0] != left[-1], stand)
            self.assertTrue(first + len(stretch) - 1 == high or stretch[-1] != right[-1], stand)

    def test_rounds_are_not_longer_than_must_be(self):
        for street, stand in asked():
            for lots in course(street, stand)[2:]:
                for many in range(1, len(lots)):
                    self.assertNotEqual([lots[k % many] for k in range(len(lots))], lots)

    def test_some(self):
        for street, stand, told in (
                (alike(ONE), (0, "a"), (-1, [("a",)] * 2, [("a",)], [("a",)])),
                (alike(ONE), (-1, "a"), (-1, [("a",)] * 2, [("a",)], [("a",)])),
                (alike(ONE), (3, "a"), (-1, [("a",)] * 5, [("a",)], [("a",)])),
                (alike(ONE), (-3, "a"), (-3, [("a",)] * 4, [("a",)], [("a",)])),
                (alike(EAST), (2, "a"), (-1, [()] * 3 + [("a",)], [()], [("a",)])),
                (alike(SHUT), (-2, "b"), (-2, [("b",), (), ()], [()], [()])),
                (Street(ONE, 5, [ONE], ONE), (5, "a"), (5, [("a",)], [("a",)], [("a",)])),
                (Street(ONE, 5, [SHUT], ONE), (5, "a"), (5, [("a",)], [()], [()])),
                (Street(ONE, 5, [SHUT], ONE), (4, "a"), (4, [("a",), ("a",)], [("a",)], [()])),
                (Street(SHUT, 5, [SHUT, SHUT], SHUT), (9, "a"), (5, [()] * 4 + [("a",)], [()], [()])),
                (alike(ring_sort("bcdefa")), (0, "d"),
                 (-1, [(), ("d",)], [()], [("e",), ("f",), ("a",), ("b",), ("c",), ("d",)])),
                (alike(ring_sort("bcdeff")), (0, "b"),
                 (-1, [(), ("b",), ("c",), ("d",), ("e",)], [()], [("f",)])),
                (alike(ring_sort("bcdec-", out=-1)), (0, "b"),
                 (-1, [("c",), ("b",)], [("d",), ("e",), ("c",)], [()])),
                (alike(ring_sort("bcdec-", out=-1)), (-1, "a"),
                 (-2, [("b",), ("a",), ()], [("c",), ("d",), ("e",)], [()])),
                (out_and_in(), (0, "a"),
                 (-3, [("g",), ("f", "h"), ("e", "h"), ("a", "e", "h"), ("a", "e", "h"), ("a", "e"), ("b", "e"),
                       ("c", "e"), ("d",)], [()], [()])),
                (out_and_in(), (0, "h"), (0, [("h",), ("h",)], [()], [()]))):
            self.assertEqual(shape(course(street, stand)), shape(told))

    def test_a_told_list_changed_behind(self):
        for street, stand in asked()[::9]:
            before, again = course(street, stand), course(street, stand)
            spoil(again)
            again[1].clear()
            self.assertEqual(course(street, stand), before)


class RoomsAt(unittest.TestCase):

    def test_against_a_search(self):
        for (street, stand), lots in zip(asked(), found()):
            first, behind = street.first(), street.first() + len(street)
            for house in {-130, -61, stand[0] - 1, stand[0], stand[0] + 1, first - 2, first - 1, first, behind - 1, behind,
                          behind + 1, 61, 129, 130}:
                self.assertEqual(shape(rooms_at(street, stand, house)), shape(lots[house]))

    def test_each_house_about_the_odd_ones(self):
        for (street, stand), lots in list(zip(asked(), found()))[::25]:
            for house in lots:
                self.assertEqual(rooms_at(street, stand, house), lots[house])

    def test_houses_of_thirty_figures_and_those_next_to_them(self):
        # Behind 70 all comes again and again by sixty houses, whatever the round.
        for (street, stand), lots in zip(asked()[::3], found()[::3]):
            for far in (10 ** 29, HUGE, 10 ** 30 - 2):
                for house in (far, far + 1):
                    self.assertEqual(rooms_at(street, stand, house), lots[70 + (house - 70) % 60])
                    self.assertEqual(rooms_at(street, stand, -house), lots[-70 - (house - 70) % 60])

    def test_rings(self):
        street = alike(ring_sort("bcdefa"))
        for far in (0, 1, 5, 6, 10 ** 29, HUGE, 10 ** 30 - 1):
            self.assertEqual(shape(rooms_at(street, (0, "a"), far)), shape(("abcdef"[far % 6],)))
            self.assertEqual(rooms_at(street, (-60, "c"), far - 60), ("cdefab"[far % 6],))
        self.assertEqual(shape(rooms_at(street, (0, "a"), -1)), shape(()))
        self.assertEqual(rooms_at(street, (0, "a"), -HUGE), ())

    def test_over_the_odd_houses_from_one_side_to_the_other(self):
        street = rings()
        self.assertEqual(rooms_at(street, (-1, "a"), 0), ("b",))
        self.assertEqual(rooms_at(street, (-1, "a"), 1), ("a",))
        self.assertEqual(rooms_at(street, (0, "f"), -2), ("f",))
        self.assertEqual(rooms_at(street, (0, "b"), -2), ())
        self.assertEqual(rooms_at(street, (0, "a"), -2), ("a",))
        self.assertEqual(rooms_at(out_and_in(), (0, "a"), 0), ("a", "e", "h"))
        self.assertEqual(rooms_at(out_and_in(), (0, "a"), 1), ("a", "e", "h"))
        self.assertEqual(rooms_at(out_and_in(), (0, "h"), 1), ("h",))
        self.assertEqual(rooms_at(out_and_in(), (1, "e"), 0), ("e", "h"))


class HousesWith(unittest.TestCase):

    def sides(self):
        """Streets and stands with each side: its nearest house, which way is out, and the lots found by a search."""
        for (street, stand), lots in list(zip(asked(), found()))[::5]:
            yield street, stand, "left", street.first() - 1, -1, lots
            yield street, stand, "right", street.first() + len(street), 1, lots

    def test_against_a_search(self):
        for street, stand, side, near, out, lots in self.sides():
            sort = street.left() if side == "left" else street.right()
            for room in [*sort.rooms(), "nowhere"]:
                for further in (0, 1, 2, 3, 7, 40, 70):
                    many = sum(room in lots[near + out * k] for k in range(further + 1))
                    told = houses_with(street, stand, room, side, near + out * further)
                    self.assertEqual(shape(told), shape(many))

    def test_next_against_a_search(self):
        for street, stand, side, near, out, lots in self.sides():
            sort = street.left() if side == "left" else street.right()
            for room in [*sort.rooms(), "nowhere"]:
                for further in (0, 1, 2, 5, 9, 40):
                    house = near + out * further
                    with_it = [near + out * k for k in range(further, 130 - out * near) if room in lots[near + out * k]]
                    told = next_with(street, stand, room, side, house)
                    self.assertEqual(shape(told), shape(with_it[0] if with_it else None))

    def test_of_thirty_figures(self):
        for street, stand, side, near, out, lots in self.sides():
            sort = street.left() if side == "left" else street.right()
            for room in sort.rooms():
                begin = near + out * 125 if abs(near + out * 125) < 70 else 70 * out
                round_ = [room in lots[begin + out * k] for k in range(60)]
                many = sum(room in lots[house] for house in range(near, begin, out))
                for far in (10 ** 29, HUGE, HUGE + 1, 10 ** 30 - 100):
                    house = begin + out * far
                    rounds, over = divmod(far + 1, 60)
                    told = houses_with(street, stand, room, side, house)
                    self.assertEqual(shape(told), shape(many + rounds * sum(round_) + sum(round_[:over])))
                    nearest = [house + out * k for k in range(60) if (round_ + round_)[over - 1 + k]] if over else \
                        [house + out * k for k in range(60) if (round_ + round_)[59 + k]]
                    told = next_with(street, stand, room, side, house)
                    self.assertEqual(shape(told), shape(nearest[0] if nearest else None))

    def test_some_in_all_and_in_none(self):
        street = Street(SHUT, 3, [ring_sort("bcdefa")], ring_sort("bcdefa"))
        stand = (3, "a")
        for room, house, many, further in (
                ("b", 4, 1, 4), ("a", 4, 0, 9), ("b", 9, 1, 10), ("b", 10, 2, 10), ("b", 10 ** 29, 16666666666666666666666666667, None)):
            self.assertEqual(houses_with(street, stand, room, "right", house), many)
            if further is not None:
                self.assertEqual(next_with(street, stand, room, "right", house), further)
        for room in ("a", "b"):
            for house in (2, -5, -10 ** 29):
                self.assertEqual(shape(houses_with(street, stand, room, "left", house)), shape(0))
                self.assertIsNone(next_with(street, stand, room, "left", house))
        self.assertEqual(houses_with(alike(ONE), (0, "a"), "a", "right", 10 ** 30 - 1), 10 ** 30)
        self.assertEqual(houses_with(alike(ONE), (0, "a"), "a", "left", 1 - 10 ** 30), 10 ** 30 - 1)
        self.assertEqual(next_with(alike(ONE), (0, "a"), "a", "left", 1 - 10 ** 30), 1 - 10 ** 30)

    def test_a_room_that_comes_but_in_some_houses_ahead_of_the_rounds(self):
        street = alike(ring_sort("bcdeff"))
        for room, house, many, further in (("b", 0, 0, 1), ("b", 1, 1, 1), ("b", 2, 1, None), ("b", HUGE, 1, None),
                                           ("e", 2, 0, 4), ("f", 4, 0, 5), ("f", HUGE, HUGE - 4, HUGE)):
            self.assertEqual(houses_with(street, (0, "a"), room, "right", house), many)
            self.assertEqual(shape(next_with(street, (0, "a"), room, "right", house)), shape(further))

    def test_odd_houses_are_none_of_the_side(self):
        street = Street(ONE, 0, [ONE] * 3, ONE)
        for side, near, out in (("left", -1, -1), ("right", 3, 1)):
            for further in (0, 1, 5, HUGE):
                self.assertEqual(houses_with(street, (1, "a"), "a", side, near + out * further), further + 1)
                self.assertEqual(next_with(street, (1, "a"), "a", side, near + out * further), near + out * further)
        street = Street(EAST, 0, [EAST, SHUT], SHUT)
        self.assertEqual(houses_with(street, (0, "a"), "a", "right", 9), 0)
        self.assertIsNone(next_with(street, (0, "a"), "a", "right", 2))

    def test_a_first_stand_far_out_on_the_side(self):
        west = ring_sort("bca", out=-1)
        street = Street(SHUT, -50, [SHUT], west)
        for house, many, further in ((-49, 0, -48), (-48, 1, -48), (-47, 1, -45), (-46, 1, -45), (57, 36, 57), (58, 36, 60),
                                     (60, 37, 60)):
            self.assertEqual(houses_with(street, (60, "a"), "a", "right", house), many)
            self.assertEqual(next_with(street, (60, "a"), "a", "right", house), further)
        for house in (61, 62, 10 ** 29):
            self.assertEqual(houses_with(street, (60, "a"), "a", "right", house), 37)
            self.assertIsNone(next_with(street, (60, "a"), "a", "right", house))


class FirstStands(unittest.TestCase):

    def test_one_beyond_is_refused_ahead_of_all_else(self):
        street = rings()
        for house in (61, -61, 62, 999, 10 ** 12 - 1, 1 - 10 ** 12, HUGE):
            for room in ("a", "nowhere"):
                for asked_for, more in ((rooms_at, (0,)), (rooms_at, (None,)), (course, ()),
                                        (houses_with, ("a", "right", 5)), (next_with, ("a", "right", 5)),
                                        (houses_with, (None, "up", None)), (next_with, (None, "up", None))):
                    with self.assertRaises(TooFar) as caught:
                        asked_for(street, (house, room), *more)
                    self.assertEqual(shape(vars(caught.exception)), shape({"house": house}))

    def test_what_is_told_is_of_just_the_kinds(self):
        class Number(int):
            pass

        class Word(str):
            pass

        stand, plain = (Number(-20), Word("a")), (-20, "a")
        street = Street(SHUT, 0, [ONE], ONE)
        self.assertEqual(shape(course(street, stand)), shape(course(street, plain)))
        self.assertEqual(shape(rooms_at(street, stand, Number(-20))), shape(("a",)))
        self.assertEqual(shape(houses_with(street, stand, Word("a"), "left", Number(-20))), shape(1))
        self.assertEqual(shape(next_with(street, stand, Word("a"), "left", Number(-20))), shape(-20))
        with self.assertRaises(TooFar) as caught:
            course(street, (Number(61), "a"))
        self.assertEqual(shape(vars(caught.exception)), shape({"house": 61}))

    def test_sixty_is_near_enough(self):
        for house in (60, -60):
            stand = (house, "a")
            self.assertEqual(rooms_at(rings(), stand, house), ("a",))
            self.assertEqual(read_course(course(rings(), stand), house), ("a",))
            self.assertGreaterEqual(houses_with(rings(), stand, "a", "right", 60), 0)
            next_with(rings(), stand, "a", "right", 60)


class Interface(unittest.TestCase):

    def test_each_is_defined_in_its_file(self):
        for one, names in ((rooms_at, "(street, stand, house)"), (course, "(street, stand)"),
                           (houses_with, "(street, stand, room, side, house)"),
                           (next_with, "(street, stand, room, side, house)")):
            self.assertEqual(one.__module__, courses.__name__)
            self.assertEqual(str(inspect.signature(one)), names)

    def test_by_names(self):
        street = alike(ONE)
        self.assertEqual(rooms_at(house=3, stand=(0, "a"), street=street), ("a",))
        self.assertEqual(course(stand=(0, "a"), street=street)[0], -1)
        self.assertEqual(houses_with(house=3, side="right", room="a", stand=(0, "a"), street=street), 4)
        self.assertEqual(next_with(house=3, side="right", room="a", stand=(0, "a"), street=street), 3)

    def test_what_is_handed_in_is_as_it_was(self):
        street, other, stand = out_and_in(), out_and_in(), (0, "a")
        course(street, stand), rooms_at(street, stand, 5), houses_with(street, stand, "a", "right", 9)
        next_with(street, stand, "a", "right", 9)
        self.assertEqual((street, stand), (other, (0, "a")))


if __name__ == "__main__":
    unittest.main()
