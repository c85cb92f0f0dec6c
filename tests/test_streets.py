"""Sorts, streets and places (point 10), and point 2 of these."""

import copy
import inspect
import itertools
import unittest
from collections import namedtuple

from likehouses import streets
from likehouses.streets import Sort, Street, places_of
from tests.samples import (SIX_ROOMS, TWELVE_DOORS, large, middle, numbered, odd_street, shape, small,
                           spoil, things)

FAR = 123456789012345678901234567890


def orders(row):
    """A row in several orders: rising, falling, turned round, and half over."""
    row = list(row)
    half = len(row) // 2
    return [row, row[::-1], row[1:] + row[:1], row[half:] + row[:half], row[::2] + row[1::2]]


def told(sort):
    """All that a sort tells, with the kinds of it."""
    return (shape(sort.rooms()), shape(sort.doors()))


def told_of(street):
    """All that a street tells, with the kinds of it."""
    return (shape(street.first()), shape(len(street)), shape(places_of(street)),
            told(street.left()), [told(sort) for sort in street.odd()], told(street.right()))


class Sorts(unittest.TestCase):

    def test_rooms_and_doors_are_told_in_the_one_order(self):
        for rooms, doors in itertools.product(orders(SIX_ROOMS), orders(TWELVE_DOORS)):
            for kind, other_kind in itertools.product((list, tuple), repeat=2):
                sort = Sort(kind(rooms), other_kind(doors))
                self.assertEqual(shape(sort.rooms()), shape(SIX_ROOMS))
                self.assertEqual(shape(sort.doors()), shape(TWELVE_DOORS))

    def test_doors_rise_by_their_names_alone(self):
        doors = [("c", "a", -1, "a", 1), ("b", "b", 0, "a", 2), ("a", "c", 1, "a", 99)]
        self.assertEqual(Sort(["a", "b", "c"], doors).doors(), doors[::-1])

    def test_shorter_names_come_ahead_of_longer_ones(self):
        doors = [("ab", "a", 0, "a", 1), ("a", "ab", 0, "a", 1), ("b", "a", 0, "a", 1)]
        sort = Sort(["b", "ab", "a"], doors)
        self.assertEqual(sort.rooms(), ["a", "ab", "b"])
        self.assertEqual([door[0] for door in sort.doors()], ["a", "ab", "b"])

    def test_one_room_and_six_no_door_and_twelve(self):
        for rooms, doors in ((["a"], []), (SIX_ROOMS, []), (SIX_ROOMS, TWELVE_DOORS),
                             (["a"], [("loop", "a", 0, "a", 1)])):
            self.assertEqual(told(Sort(rooms, doors)), (shape(rooms), shape(doors)))
            self.assertEqual(told(Sort(tuple(rooms), tuple(doors))), (shape(rooms), shape(doors)))

    def test_by_names(self):
        sort = Sort(doors=TWELVE_DOORS, rooms=SIX_ROOMS)
        self.assertEqual(told(sort), (shape(SIX_ROOMS), shape(TWELVE_DOORS)))

    def test_somewhat_beyond_the_bounds_nothing_is_refused(self):
        rooms = SIX_ROOMS + ["zzzzzzzzz"]
        doors = TWELVE_DOORS + [("zzzzzzzzz", "a", 2, "a", 100)]
        self.assertEqual(told(Sort(rooms, doors)), (shape(rooms), shape(doors)))

    def test_parts_of_classes_made_from_the_kinds_are_told_as_the_kinds(self):
        class Word(str):
            pass

        class Number(int):
            pass

        Door = namedtuple("Door", "name room move goal price")
        door = Door(Word("go"), Word("a"), Number(1), Word("a"), Number(7))
        self.assertEqual(told(Sort([Word("a")], [door])), (shape(["a"]), shape([("go", "a", 1, "a", 7)])))


class Streets(unittest.TestCase):

    def test_sides_odd_houses_and_first(self):
        for first in (-50, -1, 0, 1, 50):
            for many in (0, 1, 2, 8):
                for kind in (list, tuple):
                    row = [numbered(k) for k in range(many)]
                    street = Street(small(), first, kind(row), large())
                    self.assertEqual(told(street.left()), told(small()))
                    self.assertEqual(told(street.right()), told(large()))
                    self.assertIs(type(street.odd()), list)
                    self.assertEqual([told(sort) for sort in street.odd()], [told(sort) for sort in row])
                    self.assertEqual(shape(street.first()), shape(first))
                    self.assertEqual(shape(len(street)), shape(many))

    def test_told_sorts_are_sorts(self):
        street = odd_street(0, 2)
        for sort in [street.left(), street.right(), street.sort_at(0), *street.odd()]:
            self.assertIs(type(sort), Sort)

    def test_the_odd_ones_keep_their_row(self):
        row = [numbered(3), numbered(1), numbered(3), numbered(2)]
        street = Street(small(), 0, row, small())
        self.assertEqual([sort.rooms() for sort in street.odd()], [["roomd"], ["roomb"], ["roomd"], ["roomc"]])

    def test_odd_houses_may_be_of_a_sides_sort(self):
        street = Street(small(), -1, [small(), middle(), middle()], middle())
        self.assertEqual(len(street), 3)
        self.assertEqual(places_of(street), ["left", -1, 0, 1, "right"])

    def test_by_names(self):
        street = Street(right=middle(), odd=(large(),), first=-3, left=small())
        self.assertEqual(told_of(street), told_of(Street(small(), -3, [large()], middle())))
        self.assertEqual(street.sort_at(house=-3), large())
        self.assertEqual(places_of(street=street), ["left", -3, "right"])

    def test_somewhat_beyond_the_bounds_nothing_is_refused(self):
        for first in (-51, 51, -60):
            street = odd_street(first, 9)
            self.assertEqual((street.first(), len(street), len(street.odd())), (first, 9, 9))
            self.assertEqual(len(places_of(street)), 11)

    def test_a_first_of_a_class_made_from_numbers_is_told_as_a_number(self):
        class Number(int):
            pass

        street = Street(small(), Number(4), [small()], small())
        self.assertEqual(shape(street.first()), shape(4))
        self.assertEqual(shape(places_of(street)), shape(["left", 4, "right"]))


class Places(unittest.TestCase):

    def test_places(self):
        for first, many, places in (
                (-3, 0, ["left", "right"]), (0, 0, ["left", "right"]), (50, 0, ["left", "right"]),
                (-50, 1, ["left", -50, "right"]), (0, 1, ["left", 0, "right"]), (50, 1, ["left", 50, "right"]),
                (-2, 4, ["left", -2, -1, 0, 1, "right"]), (0, 3, ["left", 0, 1, 2, "right"]),
                (7, 2, ["left", 7, 8, "right"]),
                (-8, 8, ["left", -8, -7, -6, -5, -4, -3, -2, -1, "right"]),
                (50, 8, ["left", 50, 51, 52, 53, 54, 55, 56, 57, "right"])):
            with self.subTest(first=first, many=many):
                self.assertEqual(shape(places_of(odd_street(first, many))), shape(places))

    def test_what_is_told_is_new(self):
        street = odd_street(-1, 3)
        spoil(places_of(street))
        self.assertEqual(places_of(street), ["left", -1, 0, 1, "right"])


class SortAt(unittest.TestCase):

    def test_at_every_place(self):
        for first in (-50, -2, 0, 3, 50):
            for many in (0, 1, 3, 8):
                street = odd_street(first, many)
                with self.subTest(first=first, many=many):
                    for house in (first - 1, first - 2, first - FAR, -FAR):
                        self.assertEqual(told(street.sort_at(house)), told(small()))
                    for k in range(many):
                        self.assertEqual(told(street.sort_at(first + k)), told(numbered(k)))
                    for house in (first + many, first + many + 1, first + FAR, FAR):
                        self.assertEqual(told(street.sort_at(house)), told(middle()))

    def test_houses_of_any_size(self):
        street = odd_street(0, 2)
        self.assertEqual(street.sort_at(-10 ** 3000), small())
        self.assertEqual(street.sort_at(10 ** 3000), middle())


class Copies(unittest.TestCase):

    def test_lists_handed_in_to_a_sort_changed_behind(self):
        rooms, doors = list(SIX_ROOMS), list(TWELVE_DOORS)
        sort = Sort(rooms, doors)
        spoil([rooms, doors])
        self.assertEqual(told(sort), told(large()))
        rooms.clear()
        doors.clear()
        self.assertEqual(told(sort), told(large()))

    def test_lists_handed_in_already_in_order_changed_behind(self):
        rooms, doors = ["a", "b"], [("c", "a", 1, "b", 1)]
        sort = Sort(rooms, doors)
        rooms[0] = "z"
        doors[0] = ("d", "b", 0, "b", 2)
        self.assertEqual(told(sort), (shape(["a", "b"]), shape([("c", "a", 1, "b", 1)])))

    def test_what_is_handed_in_is_as_it_was(self):
        for rooms, doors in zip(orders(SIX_ROOMS), orders(TWELVE_DOORS)):
            kept = copy.deepcopy((rooms, doors))
            Sort(rooms, doors)
            self.assertEqual(shape((rooms, doors)), shape(kept))
        row = [middle(), large(), small()]
        left, right = numbered(1), numbered(2)
        before = [told(sort) for sort in [left, right, *row]]
        street = Street(left, 4, row, right)
        street.left(), street.right(), street.odd(), street.sort_at(5), places_of(street)
        self.assertEqual([told(sort) for sort in [left, right, *row]], before)
        self.assertEqual(len(row), 3)

    def test_lists_told_by_a_sort_changed_behind(self):
        sort = large()
        for _ in range(2):
            rooms, doors = sort.rooms(), sort.doors()
            self.assertEqual((shape(rooms), shape(doors)), told(large()))
            rooms.reverse()
            doors[0] = ("zzz", "a", 0, "a", 1)
            spoil([rooms, doors])
        self.assertEqual(told(sort), told(large()))

    def test_the_row_handed_in_to_a_street_changed_behind(self):
        row = [numbered(0), numbered(1)]
        street = Street(small(), 0, row, middle())
        row.append(large())
        row[0] = large()
        self.assertEqual(told_of(street), told_of(odd_street(0, 2)))
        row.clear()
        self.assertEqual(told_of(street), told_of(odd_street(0, 2)))

    def test_sorts_handed_in_to_a_street_changed_behind(self):
        left, row, right = small(), [numbered(0), numbered(1)], middle()
        street = Street(left, 0, row, right)
        for sort in [left, right, *row]:
            Sort.__init__(sort, ["other"], [])
        self.assertEqual(told_of(street), told_of(odd_street(0, 2)))

    def test_what_a_street_tells_changed_behind(self):
        street = odd_street(-1, 3)
        before = told_of(street)
        for tell in (street.left, street.right, lambda: street.sort_at(-2), lambda: street.sort_at(0),
                     lambda: street.sort_at(2), lambda: street.odd()[1]):
            Sort.__init__(tell(), ["other"], [])
            self.assertEqual(told_of(street), before)
        for spoilt in (street.odd(), street.left().rooms(), street.right().doors()):
            spoil(spoilt)
            self.assertEqual(told_of(street), before)
        street.odd().clear()
        self.assertEqual(told_of(street), before)

    def test_each_told_list_and_sort_is_a_new_one(self):
        sort, street = large(), odd_street(0, 3)
        for tell in (sort.rooms, sort.doors, street.left, street.right, street.odd,
                     lambda: street.sort_at(-1), lambda: street.sort_at(1), lambda: street.sort_at(9),
                     lambda: street.odd()[2], lambda: places_of(street)):
            self.assertIsNot(tell(), tell())

    def test_none_stands_twice(self):
        one = middle()
        row = [one, one, one]
        street = Street(one, 0, row, one)
        found = [street.left(), street.right(), *street.odd(), one]
        self.assertEqual(len({id(sort) for sort in found}), len(found))
        Sort.__init__(street.odd()[0], ["other"], [])
        self.assertEqual(told_of(street), told_of(Street(middle(), 0, [middle(), middle(), middle()], middle())))


def unlike_sorts():
    """Sorts of which each differs from the first in one thing alone."""
    rooms = ["a", "b"]
    door, other = ("go", "a", 1, "b", 5), ("in", "b", 0, "a", 6)
    return [
        Sort(rooms, [door, other]),
        Sort(["a", "b", "c"], [door, other]), Sort(["a"], [door, other]), Sort(["a", "c"], [door, other]),
        Sort(rooms, [door]), Sort(rooms, [other]), Sort(rooms, []),
        Sort(rooms, [door, other, ("on", "b", 0, "a", 6)]),
        Sort(rooms, [("gone", "a", 1, "b", 5), other]),
        Sort(rooms, [("go", "b", 1, "b", 5), other]),
        Sort(rooms, [("go", "a", 0, "b", 5), other]), Sort(rooms, [("go", "a", -1, "b", 5), other]),
        Sort(rooms, [("go", "a", 1, "a", 5), other]),
        Sort(rooms, [("go", "a", 1, "b", 4), other]),
        Sort(rooms, [("go", "b", 0, "a", 6), ("in", "a", 1, "b", 5)]),
    ]


def unlike_streets():
    """Streets of which each differs from the first in one thing alone."""
    left, right, one, two = numbered(0), numbered(1), numbered(2), numbered(3)
    # An alike house told as an odd one makes a street that lets the same, but no equal one.
    return [
        Street(left, 0, [one, two], right),
        Street(left, 1, [one, two], right), Street(left, -1, [one, two], right),
        Street(two, 0, [one, two], right), Street(left, 0, [one, two], two),
        Street(right, 0, [one, two], left),
        Street(left, 0, [one], right), Street(left, 0, [two], right), Street(left, 0, [], right),
        Street(left, 0, [one, two, two], right), Street(left, 0, [one, one, two], right),
        Street(left, 0, [two, one], right), Street(left, 0, [one, one], right), Street(left, 0, [two, two], right),
        Street(left, -1, [left, one, two], right), Street(left, 0, [one, two, right], right),
    ] + [Street(left, 0, [one, sort], right) for sort in unlike_sorts()]


class Equality(unittest.TestCase):

    def alike(self, one, other):
        for first, second in ((one, other), (other, one), (one, one)):
            self.assertIs(first == second, True)
            self.assertIs(first != second, False)

    def unlike(self, one, other):
        for first, second in ((one, other), (other, one)):
            self.assertIs(first == second, False)
            self.assertIs(first != second, True)

    def test_sorts_made_in_unlike_orders_are_equal(self):
        for rooms, doors in itertools.product(orders(SIX_ROOMS), orders(TWELVE_DOORS)):
            self.alike(Sort(rooms, doors), large())
            self.alike(Sort(tuple(rooms), tuple(doors)), large())

    def test_streets_made_in_unlike_orders_are_equal(self):
        for rooms, doors in zip(orders(SIX_ROOMS), orders(TWELVE_DOORS)):
            one = Sort(rooms, doors)
            self.alike(Street(one, 5, [one, small()], one), Street(large(), 5, (large(), small()), large()))
            self.alike(Street(one, 5, [], one), Street(large(), 5, (), large()))

    def test_sorts_that_differ_in_one_thing_are_not(self):
        for one, other in itertools.combinations(unlike_sorts(), 2):
            self.unlike(one, other)
        for one, other in zip(unlike_sorts(), unlike_sorts()):
            self.alike(one, other)

    def test_streets_that_differ_in_one_thing_are_not(self):
        for one, other in itertools.combinations(unlike_streets(), 2):
            self.unlike(one, other)
        for one, other in zip(unlike_streets(), unlike_streets()):
            self.alike(one, other)

    def test_a_difference_at_each_place_of_a_street(self):
        for place in range(10):
            row = [large()] * 10
            row[place] = Sort(SIX_ROOMS, TWELVE_DOORS[1:])
            self.unlike(Street(row[0], 0, row[1:9], row[9]), Street(large(), 0, [large()] * 8, large()))

    def test_first_counts_without_odd_houses_too(self):
        self.unlike(odd_street(0, 0), odd_street(1, 0))

    def test_to_a_thing_of_another_kind_none_is_equal(self):
        sort, street = middle(), odd_street(0, 2)
        self.unlike(sort, street)
        for odd_one in (sort, street, small(), odd_street(0, 0)):
            for thing in things() + [2, "left", odd_one.__class__, object()]:
                self.unlike(odd_one, thing)
        for thing in ((sort.rooms(), sort.doors()), [sort.rooms(), sort.doors()], sort.rooms(),
                      {"rooms": sort.rooms(), "doors": sort.doors()}, (sort,), [sort]):
            self.unlike(sort, thing)
        for thing in ((street.left(), 0, street.odd(), street.right()), street.odd(), len(street), street.first(),
                      [street], {"first": 0}, street.left()):
            self.unlike(street, thing)


class Interface(unittest.TestCase):

    def test_each_is_defined_in_its_file_and_class(self):
        for thing in (Sort, Street, places_of):
            self.assertEqual(thing.__module__, streets.__name__)
        for name in ("__eq__", "rooms", "doors"):
            self.assertIn(name, vars(Sort))
        for name in ("__eq__", "__len__", "left", "right", "odd", "first", "sort_at"):
            self.assertIn(name, vars(Street))

    def test_arguments(self):
        for asked, names in ((Sort, ["rooms", "doors"]), (Street, ["left", "first", "odd", "right"]),
                             (Street.sort_at, ["self", "house"]), (places_of, ["street"])):
            parameters = inspect.signature(asked).parameters.values()
            self.assertEqual([one.name for one in parameters], names)
            self.assertEqual({one.default for one in parameters}, {inspect.Parameter.empty})


if __name__ == "__main__":
    unittest.main()
