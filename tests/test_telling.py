"""Told ways and least prices (points 27 and 4)."""

import copy
import inspect
import random
import unittest

from likehouses import telling
from likehouses.errors import TooFar
from likehouses.fences import bars, fence
from likehouses.rows import is_rows, rows_gone, unrolled
from likehouses.streets import Sort, Street
from likehouses.telling import way_to
from likehouses.ways import price_of
from tests.samples import (FarPrices, alike, chance_street, lists_and_dicts, prices_found, ring_sort, shape, spoil,
                           streets_and_stands)

HUGE = 123456789012345678901234567890
FAR = 10 ** 12 - 1
ONE = Sort(["a"], [("in", "a", -1, "a", 1), ("out", "a", 1, "a", 2)])
SHUT = Sort(["a", "b"], [])


def two_roads(dear=50):
    """Road a out costs 3 a house, road b 2, and it is dear to come to b."""
    return alike(Sort(["a", "b"], [("a", "a", 1, "a", 3), ("b", "b", 1, "b", 2), ("up", "a", 0, "b", dear)]))


class Asked(unittest.TestCase):

    def ask(self, street, stand, other, price):
        """What is told, if it is the way to another stand of just this price, or None."""
        told = way_to(street, stand, other)
        if price is None:
            self.assertIsNone(told, (stand, other))
            return None
        self.assertEqual([type(part) for part in told], [int, tuple], (stand, other))
        self.assertEqual(told[0], price, (stand, other))
        self.assertTrue(is_rows(told[1]))
        self.assertLessEqual(len(told[1][0]), 2000)
        end, _, cost = rows_gone(street, stand, told[1])
        self.assertEqual((end, cost), (other, price), stand)
        return told


class AgainstASearch(Asked):

    def test_near_by(self):
        for street, stand in streets_and_stands(120):
            found = prices_found(street, stand, -220, 220)
            first, behind = street.first(), street.first() + len(street)
            houses = {*range(first - 3, behind + 3), stand[0] - 1, stand[0], stand[0] + 1, first - 30, behind + 30}
            for house in sorted(houses):
                for room in street.sort_at(house).rooms():
                    self.ask(street, stand, (house, room), found.get((house, room)))

    def test_all_houses_about(self):
        for street, stand in streets_and_stands(9):
            found = prices_found(street, stand, -220, 220)
            for house in range(-110, 111):
                for room in street.sort_at(house).rooms():
                    self.ask(street, stand, (house, room), found.get((house, room)))

    def test_far_off_by_sums_of_first_comings(self):
        for seed, (street, stand) in enumerate(streets_and_stands(90)):
            chance, far = random.Random(seed), FarPrices(street, stand)
            for house in (FAR, -FAR, chance.randint(-FAR, FAR), chance.choice([-1, 1]) * chance.randint(100, 10 ** 5),
                          2 ** 39, -2 ** 39 - 1):
                for room in street.sort_at(house).rooms():
                    self.ask(street, stand, (house, room), far.at(house, room))

    def test_none_just_where_the_told_fence_bars(self):
        barred = 0
        for seed in range(80):
            chance, street = random.Random(seed), chance_street(seed, rooms=3, most_odd=3)
            house = chance.randint(max(-60, street.first() - 2), min(60, street.first() + 4))
            stand = (house, chance.choice(street.sort_at(house).rooms()))
            told = fence(street, stand)
            for house in (*range(house - 7, house + 8), -FAR, FAR, 7 - FAR, FAR - 9):
                for room in street.sort_at(house).rooms():
                    self.assertIs(way_to(street, stand, (house, room)) is None, bars(told, (house, room)))
                    barred += bars(told, (house, room))
        self.assertGreater(barred, 100)


class Crafted(Asked):

    def test_the_first_stand_itself(self):
        for street, stand in streets_and_stands(30):
            told = self.ask(street, stand, stand, 0)
            self.assertEqual(shape(told), shape((0, ([], []))))

    def test_from_sixty_to_the_other_side(self):
        street = Street(ONE, 0, [ONE], ONE)
        for house, other, price in ((60, -60, 120), (-60, 60, 240), (60, -FAR, 60 + FAR), (-60, FAR, 2 * (60 + FAR)),
                                    (60, FAR, 2 * (FAR - 60)), (-60, -FAR, FAR - 60), (60, 61, 2), (-60, -61, 1)):
            self.ask(street, (house, "a"), (other, "a"), price)

    def test_from_first_at_both_ends(self):
        for first in (-50, 50):
            for house in (-60, first - 1, first, first + 1, 60):
                self.ask(Street(ONE, first, [ONE] * 8, ONE), (house, "a"), (FAR, "a"), 2 * (FAR - house))
                self.ask(Street(ONE, first, [], ONE), (house, "a"), (-FAR, "a"), FAR + house)

    def test_two_roads_of_which_the_dear_one_is_cheaper_further_out(self):
        for dear in (1, 50, 99):
            street = two_roads(dear)
            for houses in (0, 1, dear - 1, dear, dear + 1, dear + 2, 10 ** 6, FAR):
                self.ask(street, (0, "a"), (houses, "a"), 3 * houses)
                self.ask(street, (0, "a"), (houses, "b"), 2 * houses + dear)
        down = Sort(["a", "b"], two_roads().right().doors() + [("down", "b", 0, "a", 50)])
        for houses in (1, 99, 100, 101, FAR):
            self.ask(alike(down), (0, "a"), (houses, "a"), min(3 * houses, 2 * houses + 100))

    def test_rings_of_first_comings(self):
        for goals in ("ba", "bca"):
            many = len(goals)
            for out in (-1, 1):
                street = alike(ring_sort(goals, out=out))
                for houses in (0, 1, 2, 3, 4, 5, 6, 59, 60, 61, FAR - 5, FAR - 4, FAR - 3, FAR):
                    for k in range(many):
                        price = houses if houses % many == k else None
                        self.ask(street, (0, "a"), (out * houses, "abc"[k]), price)

    def test_rings_of_two_and_three_at_other_prices(self):
        # Rings of three houses at 10 and of two at 7, joined in room a; to a by any number but 1.
        sort = Sort(list("abcd"), [("xa", "a", 1, "b", 4), ("xb", "b", 1, "c", 3), ("xc", "c", 1, "a", 3),
                                   ("ya", "a", 1, "d", 6), ("yd", "d", 1, "a", 1)])
        for houses, price in ((2, 7), (3, 10), (4, 14), (5, 17), (6, 20), (7, 24), (8, 27), (9, 30), (1, None),
                              (3 * 10 ** 11, 10 ** 12), (3 * 10 ** 11 + 1, 10 ** 12 + 4), (3 * 10 ** 11 + 2, 10 ** 12 + 7)):
            self.ask(alike(sort), (0, "a"), (houses, "a"), price)

    def test_out_by_going_in_first(self):
        # Only at house 0 one comes from a to b; far out a's road has no doors to it.
        left = Sort(["a", "b"], [("in", "a", 1, "a", 1), ("out", "a", -1, "a", 1)])
        right = Sort(["a", "b"], [("in", "a", -1, "a", 1), ("go", "b", 1, "b", 1), ("slow", "a", 1, "a", 9)])
        odd = Sort(["a", "b"], [("turn", "a", 0, "b", 5), ("on", "b", 1, "b", 1), ("back", "a", 1, "a", 9),
                                ("in", "a", -1, "a", 1)])
        street = Street(left, 0, [odd], right)
        self.ask(street, (10, "a"), (11, "a"), 9)
        self.ask(street, (10, "a"), (10, "b"), 10 + 5 + 10)
        self.ask(street, (60, "a"), (FAR, "b"), 60 + 5 + FAR)

    def test_over_the_odd_houses_to_the_other_side_and_back(self):
        # The turn from a to b is three houses out on the left side, by rooms that go out and back.
        left = Sort(list("abcd"), [("x", "a", -1, "c", 1), ("y", "c", -1, "d", 2), ("z", "d", 1, "b", 3), ("u", "b", 1, "b", 4)])
        odd = Sort(["a", "b"], [("x", "a", -1, "a", 5), ("u", "b", 1, "b", 6)])
        right = Sort(["a", "b"], [("x", "a", -1, "a", 7), ("u", "b", 1, "b", 8), ("t", "a", 0, "b", 99)])
        street = Street(left, -1, [odd, odd], right)
        # House 1 is the right side's nearest, -2 the left one's.
        self.ask(street, (1, "a"), (1, "b"), 7 + 5 + 5 + 1 + 2 + 3 + 4 + 4 + 6 + 6)
        self.ask(street, (1, "a"), (FAR, "b"), 43 + 8 * (FAR - 1))
        self.ask(street, (50, "a"), (50, "b"), 99)
        self.ask(street, (50, "a"), (FAR, "b"), 99 + 8 * (FAR - 50))

    def test_several_houses_out_and_back(self):
        # From a to b leads only a way of five houses out and five back.
        sort = Sort(list("abcdef"), [("oa", "a", 1, "c", 1), ("oc", "c", 1, "d", 1), ("od", "d", 1, "e", 1),
                                     ("oe", "e", 1, "f", 1), ("of", "f", -1, "f", 1), ("xf", "f", -1, "b", 1),
                                     ("ob", "b", 1, "b", 7)])
        for out in (1, -1):
            turned = Sort(sort.rooms(), [(name, room, out * move, goal, price) for name, room, move, goal, price in sort.doors()])
            self.ask(alike(turned), (0, "a"), (3 * out, "b"), 5)
            self.ask(alike(turned), (0, "a"), (0, "b"), 8)
            self.ask(alike(turned), (0, "a"), (FAR * out, "b"), 5 + 7 * (FAR - 3))

    def test_a_deep_loop_out(self):
        # Out by a ring of two, in by a ring of three: only six houses further out both meet rightly.
        sort = Sort(list("abcdef"), [("oa", "a", 1, "b", 1), ("ob", "b", 1, "a", 1), ("turn", "a", 0, "c", 1),
                                     ("ic", "c", -1, "d", 1), ("id", "d", -1, "e", 1), ("ie", "e", -1, "c", 1),
                                     ("go", "d", 0, "f", 1), ("far", "f", 1, "f", 1)])
        street = Street(SHUT, 0, [SHUT], sort)
        found = prices_found(street, (1, "a"), -60, 100)
        for house in (1, 2, 3, 4, 9):
            for room in sort.rooms():
                self.ask(street, (1, "a"), (house, room), found.get((house, room)))
        self.assertEqual(found[1, "f"], 4 + 1 + 4 + 1)
        # Two houses out, one in as d, and there to f.
        self.ask(street, (1, "a"), (FAR, "f"), 2 + 1 + 1 + 1 + FAR - 2)

    def test_no_way(self):
        for street, stand, other in (
                (alike(SHUT), (0, "a"), (0, "b")), (alike(SHUT), (0, "a"), (1, "a")), (alike(SHUT), (0, "a"), (-FAR, "b")),
                (two_roads(), (0, "a"), (-1, "a")), (two_roads(), (0, "b"), (5, "a")), (two_roads(), (0, "b"), (FAR, "a")),
                (Street(ONE, 0, [SHUT], ONE), (-1, "a"), (1, "a")), (Street(ONE, 0, [SHUT], ONE), (-1, "a"), (FAR, "a"))):
            self.ask(street, stand, other, None)

    def test_unrolled_it_is_a_way_of_that_price(self):
        for street, stand in streets_and_stands(30):
            for house in (stand[0] + 40, stand[0] - 40):
                for room in street.sort_at(house).rooms():
                    told = way_to(street, stand, (house, room))
                    if told is not None:
                        way = unrolled(street, stand, told[1], most=10 ** 5)
                        self.assertEqual(price_of(street, stand, way), told[0])


class FirstStands(Asked):

    def test_one_beyond_is_refused_ahead_of_all_else(self):
        for house in (61, -61, 62, FAR, -FAR, HUGE):
            for room in ("a", "nowhere"):
                for other in ((0, "a"), (house, "a"), None, (), 7):
                    with self.assertRaises(TooFar) as caught:
                        way_to(alike(ONE), (house, room), other)
                    self.assertEqual(shape(vars(caught.exception)), shape({"house": house}))

    def test_sixty_is_near_enough(self):
        self.ask(alike(ONE), (60, "a"), (61, "a"), 2)
        self.ask(alike(ONE), (-60, "a"), (-61, "a"), 1)


class Kinds(unittest.TestCase):

    def test_what_is_told_is_the_askers_own(self):
        for street, stand in streets_and_stands(25):
            for house in (stand[0] + 3, FAR, -FAR):
                for room in street.sort_at(house).rooms():
                    told = way_to(street, stand, (house, room))
                    before = copy.deepcopy(told)
                    kept = lists_and_dicts(told)
                    self.assertEqual(len({id(part) for part in kept}), len(kept))
                    spoil(told)
                    self.assertEqual(shape(way_to(street, stand, (house, room))), shape(before))

    def test_just_the_kinds_whatever_is_handed_in(self):
        class Number(int):
            pass

        class Word(str):
            pass

        for other in ((7, "a"), (-20, "a"), (FAR, "a"), (-20, "a")):
            self.assertEqual(shape(way_to(alike(ONE), (Number(-20), Word("a")), (Number(other[0]), Word("a")))),
                             shape(way_to(alike(ONE), (-20, "a"), other)))

    def test_the_same_is_told_whatever_was_asked_ahead(self):
        for street, stand in streets_and_stands(20):
            others = [(house, room) for house in (-FAR, -80, 0, 80, FAR) for room in street.sort_at(house).rooms()]
            ahead = [way_to(street, stand, other) for other in others]
            again = [way_to(street, stand, other) for other in reversed(others)]
            self.assertEqual(shape(ahead), shape(again[::-1]))


class Interface(unittest.TestCase):

    def test_it_is_defined_in_its_file(self):
        self.assertEqual(way_to.__module__, telling.__name__)
        self.assertEqual(str(inspect.signature(way_to)), "(street, stand, other)")

    def test_by_names(self):
        told = way_to(other=(2, "a"), stand=(0, "a"), street=alike(ONE))
        self.assertEqual(told[0], 4)
        self.assertEqual(unrolled(alike(ONE), (0, "a"), told[1]), ("out", "out"))

    def test_what_is_handed_in_is_as_it_was(self):
        street, same = two_roads(), two_roads()
        stand, other = (0, "a"), (FAR, "b")
        way_to(street, stand, other)
        self.assertEqual((street, stand, other), (same, (0, "a"), (FAR, "b")))


if __name__ == "__main__":
    unittest.main()
