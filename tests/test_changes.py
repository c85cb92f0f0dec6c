"""Changed streets, and where two are unlike (points 34, 35 and 4)."""

import inspect
import random
import unittest

from likehouses import changes
from likehouses.changes import backward, folded, moved, renamed, told_out, turned, unlike, walled
from likehouses.errors import NoName, TooFar, TooMany
from likehouses.streets import Sort, Street, places_of
from tests.samples import (NO_NAMES, Doors, alike, chance_street, large, linked_street, middle, numbered, odd_street,
                           prices_found, shape, small, things)

HUGE = 123456789012345678901234567890
ONE = Sort(["a"], [("in", "a", -1, "a", 1), ("out", "a", 1, "a", 2)])
SHUT = Sort(["a", "b"], [])
WIDE = range(-75, 76)
NO_PLACES = [*things(), "Left", "LEFT", "left ", "odd", "rights", "0", ["left"], ("left",), ["right"], HUGE, -HUGE, 10 ** 12]


def streets():
    """Streets by chance, also without odd houses and with eight."""
    told = [linked_street(seed) for seed in range(25)] + [chance_street(seed, rooms=4) for seed in range(25)]
    return told + [linked_street(seed, most_odd=8) for seed in range(10)] + [odd_street(first, many) for first in (-50, 0, 50)
                                                                          for many in (0, 1, 8)]


def copied(street):
    return Street(street.left(), street.first(), street.odd(), street.right())


class Asked(unittest.TestCase):

    def houses(self, street, sort_at, about=WIDE):
        """Looks whether each house of a street is as told."""
        for house in (*about, HUGE, -HUGE):
            self.assertEqual(street.sort_at(house), sort_at(house), house)

    def refuse(self, error, fields, asked_for, *more):
        with self.assertRaises(error) as caught:
            asked_for(*more)
        self.assertIs(type(caught.exception), error)
        self.assertEqual(shape(vars(caught.exception)), shape(fields))


class Walled(Asked):

    def test_each_door_at_each_place(self):
        for street in streets():
            before = copied(street)
            for place in places_of(street):
                near = {"left": street.first() - 1, "right": street.first() + len(street)}.get(place, place)
                sort = street.sort_at(near)
                for door in sort.doors():
                    told = walled(street, place, door[0])
                    less = Sort(sort.rooms(), [other for other in sort.doors() if other != door])

                    def sort_at(house):
                        here = "left" if house < street.first() else house
                        here = "right" if house >= street.first() + len(street) else here
                        return less if here == place else street.sort_at(house)

                    self.houses(told, sort_at, range(street.first() - 2, street.first() + len(street) + 2))
                    self.assertEqual((told.first(), len(told)), (street.first(), len(street)))
                    self.assertEqual(street, before)

    def test_a_door_of_several_sorts_at_one_place_alone(self):
        street = Street(ONE, 3, [ONE, ONE], ONE)
        less = Sort(["a"], [("in", "a", -1, "a", 1)])
        for place, told in (("left", Street(less, 3, [ONE, ONE], ONE)), (3, Street(ONE, 3, [less, ONE], ONE)),
                            (4, Street(ONE, 3, [ONE, less], ONE)), ("right", Street(ONE, 3, [ONE, ONE], less))):
            self.assertEqual(walled(street, place, "out"), told)
        self.assertEqual(walled(alike(ONE), "left", "out"), Street(less, 0, [], ONE))
        self.assertEqual(walled(alike(ONE), "right", "out"), Street(ONE, 0, [], less))

    def test_a_place_that_is_none(self):
        for street, beside in ((Street(ONE, 0, [ONE] * 3, ONE), (-1, 3)), (Street(ONE, -50, [ONE] * 8, ONE), (-51, -42)),
                               (Street(ONE, 2, [], ONE), (1, 2)), (Street(ONE, 1, [ONE], ONE), (0, 2)),
                               (Street(ONE, 5, [ONE], ONE), (4, 6))):
            for place in [*NO_PLACES, *beside]:
                if not (type(place) is int and 0 <= place - street.first() < len(street)):
                    for name in ("out", "nowhere", None):
                        self.refuse(NoName, {"asked": place}, walled, street, place, name)

    def test_truths_are_no_places(self):
        street = Street(ONE, 0, [ONE, ONE], ONE)
        for place in (True, False):
            self.refuse(NoName, {"asked": place}, walled, street, place, "out")
        self.assertEqual(len(walled(street, 0, "out").sort_at(0).doors()), 1)
        self.assertEqual(len(walled(street, 1, "out").sort_at(1).doors()), 1)

    def test_a_name_that_the_places_sort_has_not(self):
        street = Street(ONE, 0, [SHUT, middle()], large())
        for place in places_of(street):
            for name in [*NO_NAMES, *things(), "nowhere", "a", "left", "outs", HUGE]:
                sort = street.sort_at({"left": -9, "right": 9}.get(place, place))
                if name not in [door[0] for door in sort.doors()]:
                    self.refuse(NoName, {"asked": name}, walled, street, place, name)
        self.refuse(NoName, {"asked": "gate"}, walled, street, "left", "gate")
        self.refuse(NoName, {"asked": "gate"}, walled, street, 0, "gate")
        self.assertEqual(len(walled(street, 1, "gate").sort_at(1).doors()), 1)

    def test_a_door_walled_is_no_more_there(self):
        street = walled(Street(ONE, 0, [ONE], ONE), 0, "out")
        self.refuse(NoName, {"asked": "out"}, walled, street, 0, "out")
        walled(street, "left", "out"), walled(street, "right", "out"), walled(street, 0, "in")

    def test_the_last_door(self):
        sort = Sort(["a"], [("x", "a", 1, "a", 1)])
        self.assertEqual(walled(alike(sort), "left", "x").left(), Sort(["a"], []))


class ToldOut(Asked):

    def test_all_houses_are_as_they_were(self):
        for street in streets():
            before = copied(street)
            for side, first in (("left", street.first() - 1), ("right", street.first())):
                if len(street) == 8:
                    self.refuse(TooMany, {"most": 8}, told_out, street, side)
                elif first < -50:
                    self.refuse(TooFar, {"house": first}, told_out, street, side)
                else:
                    told = told_out(street, side)
                    self.assertEqual((told.first(), len(told)), (first, len(street) + 1))
                    self.houses(told, street.sort_at)
                    self.assertIsNone(unlike(street, told))
                self.assertEqual(street, before)

    def test_no_odd_house(self):
        for first in (-50, -49, 0, 50):
            street = Street(small(), first, [], middle())
            self.assertEqual(told_out(street, "right"), Street(small(), first, [middle()], middle()))
            if first > -50:
                self.assertEqual(told_out(street, "left"), Street(small(), first - 1, [small()], middle()))
        self.refuse(TooFar, {"house": -51}, told_out, Street(small(), -50, [], middle()), "left")

    def test_seven_and_eight(self):
        seven = odd_street(-50, 7)
        self.assertEqual(told_out(seven, "right"), Street(small(), -50, seven.odd() + [middle()], middle()))
        self.refuse(TooFar, {"house": -51}, told_out, seven, "left")
        for first in (-50, -49, 0, 50):
            for side in ("left", "right"):
                self.refuse(TooMany, {"most": 8}, told_out, odd_street(first, 8), side)
        self.assertEqual(len(told_out(odd_street(-49, 7), "left")), 8)
        self.assertEqual(told_out(odd_street(-49, 7), "left").first(), -50)
        self.assertEqual(told_out(odd_street(50, 7), "left").first(), 49)
        self.assertEqual(told_out(odd_street(50, 7), "right").first(), 50)

    def test_again_and_again(self):
        street = Street(small(), 0, [], middle())
        for k in range(8):
            street = told_out(street, "left" if k % 2 else "right")
        self.assertEqual((street.first(), len(street)), (-4, 8))
        self.assertIsNone(unlike(street, Street(small(), 0, [], middle())))


class Folded(Asked):

    def test_plain_ones(self):
        a, b, c = small(), middle(), numbered(3)
        for left, odd, right, kept, more in (
                (a, [], b, [], 0), (a, [c], b, [c], 0), (a, [a], b, [], 1), (a, [b], b, [], 0), (a, [a, a, c, b], b, [c], 2),
                (a, [b, a], b, [b, a], 0), (a, [a, b], b, [], 1), (a, [a, b, a, b], b, [b, a], 1), (a, [c, a], b, [c, a], 0),
                (a, [c, b, b], b, [c], 0), (a, [a, c, a, c, b], b, [c, a, c], 1), (a, [a, c], a, [c], 1), (a, [c, a], a, [c], 0),
                (a, [a, c, a], a, [c], 1), (a, [a] * 8, b, [], 8), (a, [b] * 8, b, [], 0), (a, [c] * 8, b, [c] * 8, 0)):
            for first in (-50, 0, 7, 42):
                street = Street(left, first, odd, right)
                before = copied(street)
                told = folded(street)
                self.assertEqual(told, Street(left, first + more, kept, right))
                self.assertEqual(street, before)
                self.houses(told, street.sort_at)
                self.assertEqual(folded(told), told)
                self.assertIsNone(unlike(street, told))

    def test_both_sides_of_one_sort_and_none_odd(self):
        for many in (0, 1, 5, 8):
            for first in (-50, -3, 0, 43, 49, 50):
                self.assertEqual(folded(Street(small(), first, [small()] * many, small())), Street(small(), 0, [], small()))
        self.assertEqual(folded(Street(small(), 50, [middle()], small())).first(), 50)

    def test_none_left_with_sides_of_two_sorts(self):
        self.assertEqual(folded(Street(small(), 5, [small(), middle()], middle())), Street(small(), 6, [], middle()))
        self.assertEqual(folded(Street(small(), 5, [], middle())).first(), 5)

    def test_too_far(self):
        for first, many, far in ((50, 1, 51), (49, 2, 51), (45, 8, 53), (50, 8, 58), (43, 8, 51)):
            self.refuse(TooFar, {"house": far}, folded, Street(small(), first, [small()] * many, middle()))
        self.assertEqual(folded(Street(small(), 42, [small()] * 8, middle())).first(), 50)
        self.assertEqual(folded(Street(small(), 50, [middle()] * 8, middle())).first(), 50)
        self.refuse(TooFar, {"house": 51}, folded, Street(small(), 50, [small(), middle(), numbered(1)], middle()))

    def test_by_chance(self):
        for seed in range(60):
            chance = random.Random(seed)
            sorts = [chance.choice([small(), middle(), SHUT]) for _ in range(chance.randint(2, 7))]
            street = Street(sorts[0], chance.randint(-50, 40), sorts[1:-1], sorts[-1])
            told = folded(street)
            self.houses(told, street.sort_at)
            if len(told):
                self.assertNotEqual(told.odd()[0], told.left())
                self.assertNotEqual(told.odd()[-1], told.right())
            elif told.left() == told.right():
                self.assertEqual(told.first(), 0)


class Moved(Asked):

    def test_all_houses_are_moved(self):
        for street in streets():
            before = copied(street)
            for by in (0, 1, -1, 7, 50 - street.first(), -50 - street.first()):
                if abs(street.first() + by) <= 50:
                    told = moved(street, by)
                    self.assertEqual((told.first(), len(told)), (street.first() + by, len(street)))
                    self.houses(told, lambda house: street.sort_at(house - by))
            self.assertEqual(street, before)

    def test_too_far(self):
        for first in (-50, -3, 0, 50):
            street = odd_street(first, 3)
            for by in (51 - first, -51 - first, HUGE, -HUGE, 101, -101):
                self.refuse(TooFar, {"house": first + by}, moved, street, by)
            self.assertEqual(moved(street, 50 - first).first(), 50)
            self.assertEqual(moved(street, -50 - first).first(), -50)

    def test_just_the_kinds_whatever_is_handed_in(self):
        class Number(int):
            pass

        self.assertIs(type(moved(odd_street(0, 2), Number(3)).first()), int)
        self.refuse(TooFar, {"house": 51}, moved, odd_street(0, 2), Number(51))

    def test_there_and_back(self):
        for street in streets()[::4]:
            by = -street.first()
            self.assertEqual(moved(moved(street, by), -by), street)


class Turned(Asked):

    def mirrored(self, sort):
        return Sort(sort.rooms(), [(name, room, {1: -1, 0: 0, -1: 1}[move], goal, price)
                                   for name, room, move, goal, price in sort.doors()])

    def test_house_x_is_house_minus_x(self):
        for street in streets():
            before, first = copied(street), 1 - street.first() - len(street)
            if first < -50 or first > 50:
                self.refuse(TooFar, {"house": first}, turned, street)
            else:
                told = turned(street)
                self.assertEqual((told.first(), len(told)), (first, len(street)))
                self.houses(told, lambda house: self.mirrored(street.sort_at(-house)))
                self.assertEqual(turned(told), street)
            self.assertEqual(street, before)

    def test_no_odd_house(self):
        street = Street(ONE, 3, [], SHUT)
        self.assertEqual(turned(street), Street(SHUT, -2, [], self.mirrored(ONE)))

    def test_moves(self):
        sort = Sort(["a"], [("x", "a", -1, "a", 5), ("y", "a", 0, "b", 6), ("z", "a", 1, "c", 7)])
        self.assertEqual(turned(alike(sort)).left().doors(), [("x", "a", 1, "a", 5), ("y", "a", 0, "b", 6), ("z", "a", -1, "c", 7)])

    def test_too_far(self):
        for first, many, told in ((-50, 0, 51), (50, 2, -51), (50, 8, -57), (44, 8, -51), (-50, 1, None), (50, 1, None), (43, 8, None),
                                  (-49, 0, None), (50, 0, None), (-50, 8, None)):
            street = odd_street(first, many)
            if told is None:
                self.assertEqual(turned(turned(street)), street)
            else:
                self.refuse(TooFar, {"house": told}, turned, street)


class Renamed(Asked):

    def test_some_names_none_and_two_exchanged(self):
        for street in streets():
            before = copied(street)
            for rooms, doors in (({}, {}), ({"a": "b", "b": "a"}, {}), ({}, {"da": "db", "db": "da"}), ({"a": "new", "cave": "old"}, {"gate": "door"}),
                                 ({"nowhere": "elsewher"}, {"nowhere": "elsewher"}), ({"a": "da", "b": "zz"}, {"da": "a", "go": "b"})):
                names, unchanged = (dict(rooms), dict(doors)), (dict(rooms), dict(doors))
                told = renamed(street, *names)
                self.assertEqual(names, unchanged)
                self.assertEqual((told.first(), len(told)), (street.first(), len(street)))
                self.houses(told, lambda house: Sort(
                    [rooms.get(room, room) for room in street.sort_at(house).rooms()],
                    [(doors.get(name, name), rooms.get(room, room), move, rooms.get(goal, goal), price)
                     for name, room, move, goal, price in street.sort_at(house).doors()]), range(street.first() - 2, street.first() + 10))
            self.assertEqual(renamed(street, {}, {}), street)
            self.assertEqual(street, before)

    def test_rooms_and_doors_of_one_name(self):
        sort = Sort(["a", "b"], [("a", "a", 1, "b", 1), ("b", "b", 0, "c", 2)])
        told = renamed(alike(sort), {"a": "x", "c": "z"}, {"b": "y"}).left()
        self.assertEqual((told.rooms(), told.doors()), (["b", "x"], [("a", "x", 1, "b", 1), ("y", "b", 0, "z", 2)]))

    def test_their_order_is_kept_new(self):
        sort = Sort(["a", "b"], [("d", "a", 1, "b", 1), ("e", "b", 0, "a", 2)])
        told = renamed(alike(sort), {"a": "z"}, {"d": "f"}).right()
        self.assertEqual((told.rooms(), told.doors()), (["b", "z"], [("e", "b", 0, "z", 2), ("f", "z", 1, "b", 1)]))

    def test_there_and_back(self):
        for street in streets()[::3]:
            told = renamed(street, {"a": "hall", "b": "a"}, {"da": "dz"})
            self.assertEqual(renamed(told, {"hall": "a", "a": "b"}, {"dz": "da"}), street)


def doors_between(street, low, high):
    """All doors that are there of houses low to high: (house, room, house, goal, price), rising."""
    doors = Doors(street)
    return sorted((house, room, *goal, price) for house in range(low, high + 1) for room in doors.rooms(house)
                  for _, (goal, price) in doors.there(house, room))


def turned_round(doors):
    return sorted((house, goal, back, room, price) for back, room, house, goal, price in doors)


def spare_street(seed, many=None):
    """A street of few doors, so that it can be told backward."""
    chance = random.Random(seed)
    rooms = list("abcd")

    def sort():
        mine = chance.sample(rooms, chance.randint(2, 4))
        return Sort(mine, [("d" + "abcdef"[k], chance.choice(mine), chance.choice([-1, 0, 1]), chance.choice(rooms), chance.randint(1, 9))
                           for k in range(chance.randint(2, 4))])

    sorts = [sort() for _ in range((chance.randint(0, 6) if many is None else many) + 2)]
    return Street(sorts[0], chance.randint(-48, 50), sorts[1:-1], sorts[-1])


class Backward(Asked):

    def test_all_doors_turned_round(self):
        for seed in range(80):
            street = spare_street(seed)
            before = copied(street)
            told = backward(street)
            self.assertEqual(street, before)
            self.assertEqual((told.first(), len(told)), (street.first() - 1, len(street) + 2))
            low, high = street.first() - 9, street.first() + len(street) + 9
            inner = [door for door in turned_round(doors_between(street, low - 1, high + 1)) if low <= door[0] <= high]
            self.assertEqual(doors_between(told, low, high), inner)
            for house in range(low, high + 1):
                sort = told.sort_at(house)
                self.assertEqual(sort.rooms(), street.sort_at(house).rooms())
                # None is told that isn't there.
                self.assertEqual(len(sort.doors()), len([door for door in inner if door[0] == house]))
                self.assertEqual(len({door[0] for door in sort.doors()}), len(sort.doors()))
                self.assertTrue(all(1 <= len(door[0]) <= 8 and door[0].isalpha() and door[0].islower() for door in sort.doors()))

    def test_backward_twice(self):
        for seed in range(60):
            street = spare_street(seed, many=seed % 5)
            if street.first() > -49:
                told = backward(backward(street))
                low, high = street.first() - 9, street.first() + len(street) + 9
                self.assertEqual(doors_between(told, low, high), doors_between(street, low, high))

    def test_the_same_least_prices_from_there_to_here(self):
        for seed in range(30):
            street = spare_street(seed)
            told = backward(street)
            chance = random.Random(seed)
            for _ in range(6):
                one, other = [(house, chance.choice(street.sort_at(house).rooms())) for house in
                              (street.first() + chance.randint(-4, 9), street.first() + chance.randint(-4, 9))]
                self.assertEqual(prices_found(street, one, -110, 110).get(other), prices_found(told, other, -110, 110).get(one))

    def test_doors_alike_but_for_their_names_stay_several(self):
        sort = Sort(["a"], [("x", "a", 1, "a", 5), ("y", "a", 1, "a", 5), ("z", "a", 1, "a", 6)])
        told = backward(Street(sort, 0, [sort], sort))
        for house in range(-9, 9):
            self.assertEqual(sorted(door[1:] for door in told.sort_at(house).doors()),
                             [("a", -1, "a", 5), ("a", -1, "a", 5), ("a", -1, "a", 6)])

    def test_doors_that_are_missing_beside_unlike_sorts(self):
        left, right = Sort(["a"], [("x", "a", 1, "a", 1)]), Sort(["b"], [("y", "b", -1, "b", 2), ("z", "b", 1, "c", 3)])
        told = backward(Street(left, 3, [], right))
        self.assertEqual((told.first(), len(told)), (2, 2))
        self.assertEqual([[door[1:] for door in told.sort_at(house).doors()] for house in (0, 1, 2, 3, 4, 5)],
                         [[("a", -1, "a", 1)], [("a", -1, "a", 1)], [("a", -1, "a", 1)], [("b", 1, "b", 2)], [("b", 1, "b", 2)],
                          [("b", 1, "b", 2)]])

    def test_seven_and_eight_odd_houses(self):
        for first in (-50, 0, 50):
            for many in (7, 8):
                self.refuse(TooMany, {"most": 8}, backward, odd_street(first, many))
        self.assertEqual(len(backward(odd_street(0, 6))), 8)

    def many_doors(self, many, first, odd):
        """A street whose house first has so many doors that lead to it from its neighbours."""
        sort = Sort(["a"], [("d" + letter, "a", 1, "a", 1) for letter in "abcdefghijkl"[:many - many // 2]])
        back = Sort(["a"], [("d" + letter, "a", -1, "a", 1) for letter in "abcdefghijkl"[:many // 2]])
        return Street(sort, first, [Sort(["a"], [])] * odd, back)

    def test_a_sort_of_more_doors(self):
        for first in (-49, 0, 50):
            self.assertEqual(len(backward(self.many_doors(12, first, 1)).sort_at(first).doors()), 12)
            for many in (13, 14, 24):
                self.refuse(TooMany, {"most": 12}, backward, self.many_doors(many, first, 1))
            # Without an odd house between each has its own side's doors, and the other side's.
            self.refuse(TooMany, {"most": 12}, backward, self.many_doors(13, first, 0))
            self.assertEqual(len(backward(self.many_doors(24, first, 2))), 4)
        twelve = Sort(["a"], [("d" + letter, "a", 1, "a", 1) for letter in "abcdefghijkl"])
        self.assertEqual(len(backward(alike(twelve)).left().doors()), 12)

    def test_which_goes_first(self):
        self.refuse(TooFar, {"house": -51}, backward, self.many_doors(12, -50, 1))
        self.refuse(TooMany, {"most": 12}, backward, self.many_doors(13, -50, 1))
        self.refuse(TooMany, {"most": 8}, backward, self.many_doors(24, -50, 7))
        self.refuse(TooMany, {"most": 8}, backward, self.many_doors(24, 0, 8))
        self.refuse(TooFar, {"house": -51}, backward, Street(ONE, -50, [], ONE))
        self.assertEqual(backward(Street(ONE, -49, [], ONE)).first(), -50)


def by_words(one, other):
    """The house where two streets are unlike, by the words of point 35."""
    for k in range(200):
        for house in (k, -k):
            if one.sort_at(house) != other.sort_at(house):
                return house
    return None


class Unlike(Asked):

    def ask(self, one, other, told):
        for first, second in ((one, other), (other, one)):
            self.assertEqual(shape(unlike(first, second)), shape(told))
            self.assertEqual(by_words(first, second), told)

    def test_plain_ones(self):
        a, b, c = small(), middle(), numbered(2)
        for one, other, told in (
                (Street(a, 0, [], a), Street(a, 7, [], a), None), (Street(a, 0, [b], a), Street(a, 0, [c], a), 0),
                (Street(a, 1, [b], a), Street(a, 0, [], a), 1), (Street(a, -1, [b], a), Street(a, 0, [], a), -1),
                (Street(a, -2, [b, a, a, a, b], a), Street(a, 0, [], a), 2), (Street(a, -3, [b, a, a, a, a, b], a), Street(a, 0, [], a), 2),
                (Street(a, -2, [b, a, a, a, a, b], a), Street(a, 0, [], a), -2), (Street(a, -1, [b, a, b], a), Street(a, 0, [], a), 1),
                (Street(a, 50, [], b), Street(a, 50, [], c), 50), (Street(a, -50, [], b), Street(c, -50, [], b), -51),
                (Street(a, 50, [a] * 8, b), Street(a, 50, [a] * 8, c), 58), (Street(a, 50, [a] * 8, b), Street(a, 0, [], a), 58),
                (Street(b, -50, [], a), Street(a, 0, [], a), -51), (Street(a, 3, [], b), Street(a, 5, [], b), 3),
                (Street(a, 3, [b], b), Street(a, 3, [], b), None), (Street(a, 2, [a], b), Street(a, 3, [], b), None),
                (Street(a, -9, [], b), Street(b, -9, [], a), 0), (Street(a, 50, [b] * 8, a), Street(a, 50, [b] * 7, a), 57),
                (Street(a, -50, [b] * 2, a), Street(a, -49, [b], a), -50)):
            self.ask(one, other, told)

    def test_by_chance(self):
        for seed in range(150):
            chance = random.Random(seed)
            sorts = [small(), middle()]
            made = [Street(chance.choice(sorts), chance.randint(-50, 50), [chance.choice(sorts) for _ in range(chance.randint(0, 8))],
                           chance.choice(sorts)) for _ in range(2)]
            self.ask(*made, by_words(*made))

    def test_the_same_sorts_made_otherwise(self):
        doors = middle().doors()
        self.ask(Street(middle(), 0, [], small()), Street(Sort(["yard", "cave"], doors[::-1]), 0, [], Sort(("cave",), ())), None)

    def test_one_price_one_name_one_room(self):
        for other in (Sort(["cave", "yard"], [("gate", "cave", 1, "yard", 8), ("back", "yard", -1, "cave", 2)]),
                      Sort(["cave", "yard"], [("gat", "cave", 1, "yard", 7), ("back", "yard", -1, "cave", 2)]),
                      Sort(["cave", "yard", "z"], middle().doors()), Sort(["cave", "yard"], middle().doors()[:1])):
            self.ask(Street(small(), 9, [middle()], small()), Street(small(), 9, [other], small()), 9)


class Interface(unittest.TestCase):

    def test_each_is_defined_in_its_file(self):
        for one, names in ((walled, "(street, place, name)"), (told_out, "(street, side)"), (folded, "(street)"), (moved, "(street, by)"),
                           (turned, "(street)"), (renamed, "(street, rooms, doors)"), (backward, "(street)"), (unlike, "(one, other)")):
            self.assertEqual(one.__module__, changes.__name__)
            self.assertEqual(str(inspect.signature(one)), names)

    def test_by_names(self):
        street = Street(ONE, 0, [], SHUT)
        self.assertEqual(walled(name="in", place="left", street=street).left().doors(), [("out", "a", 1, "a", 2)])
        self.assertEqual(len(told_out(side="left", street=street)), 1)
        self.assertEqual(folded(street=street), street)
        self.assertEqual(moved(by=3, street=street).first(), 3)
        self.assertEqual(turned(street=street).first(), 1)
        self.assertEqual(renamed(doors={"in": "x"}, rooms={"a": "y"}, street=street).left().rooms(), ["y"])
        self.assertEqual(len(backward(street=street)), 2)
        self.assertEqual(unlike(other=street, one=moved(street, 2)), 0)

    def test_what_is_told_is_a_street_and_new(self):
        street = Street(ONE, 0, [middle()], SHUT)
        for told in (walled(street, "left", "in"), told_out(street, "left"), folded(street), moved(street, 0), turned(street),
                     renamed(street, {}, {}), backward(street)):
            self.assertIs(type(told), Street)
            self.assertIsNot(told, street)
            told.odd().append(small())
            told.left().rooms().append("spoilt")
            self.assertEqual(street, Street(ONE, 0, [middle()], SHUT))


if __name__ == "__main__":
    unittest.main()
