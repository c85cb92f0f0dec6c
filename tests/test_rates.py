"""What going out for ever costs by houses (points 30, 31 and 4)."""

import copy
import inspect
import re
import unittest
from fractions import Fraction
from math import gcd

from likehouses import rates
from likehouses.rates import is_rate, rate
from likehouses.streets import Sort, Street
from likehouses.telling import way_to
from tests.samples import (alike, any_things, changed, chance_street, linked_street, lists_and_dicts, other_forms, ring_sort,
                           shape, spoil, things)

HUGE = 123456789012345678901234567890
OUT = {"left": -1, "right": 1}
SHUT = Sort(["a", "b"], [])
ONE = Sort(["a"], [("in", "a", -1, "a", 1), ("out", "a", 1, "a", 7)])


def sort_of(street, side):
    return street.left() if side == "left" else street.right()


def doors_of(street, side):
    """The doors that are there in a street of a side's sort alone: (name, room, out, goal, price)."""
    sort = sort_of(street, side)
    return [(name, room, OUT[side] * move, goal, price) for name, room, move, goal, price in sort.doors()
            if goal in sort.rooms()]


def rooms_from(street, side, room):
    """The rooms to which some way leads."""
    found = [room]
    for here in found:
        found += [door[3] for door in doors_of(street, side) if door[1] == here and door[3] not in found]
    return found


def rounds_from(street, side, room):
    """(price, houses) of all ways from a room that come back to it and meet no other twice, each tried."""
    doors, told, ways = doors_of(street, side), [], [([room], 0, 0)]
    while ways:
        rooms, price, houses = ways.pop()
        for _, start, out, goal, more in doors:
            if start == rooms[-1]:
                if goal == room:
                    told.append((price + more, houses + out))
                elif goal not in rooms:
                    ways.append((rooms + [goal], price + more, houses + out))
    return told


def least_rate(street, side, room):
    """The least price by houses as a fraction, None without any round out."""
    rounds = [one for start in rooms_from(street, side, room) for one in rounds_from(street, side, start) if one[1] > 0]
    return min((Fraction(*one) for one in rounds), default=None)


def gone(street, side, room, way):
    """(room, houses out, price) of a way in a street of a side's sort alone, None where it can't be gone."""
    if type(way) is not tuple:
        return None
    out = price = 0
    for step in way:
        if type(step) is not str or not re.fullmatch("[a-z]{1,8}", step):
            return None
        door = [door for door in doors_of(street, side) if door[0] == step and door[1] == room]
        if not door:
            return None
        _, _, more, room, cost = door[0]
        out, price = out + more, price + cost
    return room, out, price


def numbers_hold(street, side, room, thing, least):
    """Whether numbers are ones of some rooms of the sort, by least(number, door, goal's number) for each door."""
    if type(thing) is not dict or room not in thing:
        return False
    if not all(type(name) is str and name in sort_of(street, side).rooms() and type(thing[name]) is int for name in thing):
        return False
    return all(door[3] in thing and least(thing[door[1]], door, thing[door[3]])
               for door in doors_of(street, side) if door[1] in thing)


def by_words(street, side, room, thing):
    """Whether a thing is such an answer and holds, by the words of point 30."""
    if type(thing) is not tuple or not thing:
        return False
    if type(thing[0]) is str and thing[0] == "never" and len(thing) == 2:
        return numbers_hold(street, side, room, thing[1], lambda number, door, goal: goal >= number + door[2])
    if type(thing[0]) is not str or thing[0] != "price" or len(thing) != 6:
        return False
    _, price, houses, way, ring, numbers = thing
    if type(price) is not int or type(houses) is not int or price < 1 or houses < 1 or gcd(price, houses) > 1:
        return False
    begin = gone(street, side, room, way)
    end = gone(street, side, begin[0], ring) if begin else None
    if not end or not ring or end[0] != begin[0] or end[1] < 1 or Fraction(end[2], end[1]) != Fraction(price, houses):
        return False
    return numbers_hold(street, side, room, numbers,
                        lambda number, door, goal: goal <= number + houses * door[4] - price * door[2])


def asked():
    """Streets, sides and rooms."""
    told = []
    for seed in range(120):
        street = linked_street(seed) if seed % 2 else chance_street(seed, rooms=6)
        told += [(street, side, room) for side in ("left", "right") for room in sort_of(street, side).rooms()]
    return told


class Asked(unittest.TestCase):

    def ask(self, street, side, room, thing, told=None):
        before = copy.deepcopy(thing)
        told = by_words(street, side, room, thing) if told is None else told
        self.assertIs(is_rate(street, side, room, thing), told)
        self.assertEqual(shape(thing), shape(before))


class Rate(Asked):

    def test_against_all_rounds(self):
        never = 0
        for street, side, room in asked():
            told, least = rate(street, side, room), least_rate(street, side, room)
            if least is None:
                never += 1
                self.assertEqual(told[0], "never")
            else:
                self.assertEqual(told[:3], ("price", least.numerator, least.denominator))
            self.assertTrue(by_words(street, side, room, told), told)
            self.ask(street, side, room, told, True)
        self.assertGreater(never, 30)

    def test_its_form(self):
        for street, side, room in asked()[::3]:
            told = rate(street, side, room)
            kinds = [str, dict] if told[0] == "never" else [str, int, int, tuple, tuple, dict]
            self.assertEqual([type(part) for part in told], kinds)
            for name in [name for way in told[3:5] for name in way] + list(told[-1]):
                self.assertIs(type(name), str)
            self.assertTrue(all(type(number) is int for number in told[-1].values()))

    def test_plain_ones(self):
        for street, side, room, told in (
                (alike(ONE), "right", "a", (7, 1)), (alike(ONE), "left", "a", (1, 1)),
                (Street(ONE, 3, [SHUT], SHUT), "left", "a", (1, 1)),
                (alike(ring_sort("bcdefa")), "right", "c", (1, 1)),
                (alike(ring_sort("bcdefa", out=-1)), "left", "f", (1, 1))):
            self.assertEqual(rate(street, side, room)[1:3], told)
        for street, side, room in (
                (alike(SHUT), "left", "a"), (alike(SHUT), "right", "b"), (Street(ONE, 3, [SHUT], SHUT), "right", "a"),
                (alike(ring_sort("bcdef-")), "right", "a"), (alike(ring_sort("bcdefa")), "left", "a")):
            self.assertEqual(rate(street, side, room)[0], "never")
            self.assertIn(room, rate(street, side, room)[1])

    def test_numbers_of_never_rise_outward(self):
        street = alike(ring_sort("bcdef-"))
        for numbers, told in (({k: n for n, k in enumerate("abcdef")}, True), ({k: 5 for k in "abcdef"}, False),
                              ({k: -n for n, k in enumerate("abcdef")}, False), ({"f": 0}, False), ({"a": 0}, False),
                              ({k: 7 * n - 90 for n, k in enumerate("abcdef")}, True)):
            self.ask(street, "right", "a", ("never", numbers), told)
        self.ask(street, "right", "f", ("never", {"f": -HUGE}), True)
        self.ask(street, "right", "e", ("never", {"e": 0, "f": 1}), True)
        self.ask(street, "right", "e", ("never", {"e": 0, "f": 0}), False)
        self.ask(street, "left", "a", ("never", {k: -n for n, k in enumerate("abcdef")}), True)

    def test_fractions_in_their_least_form(self):
        for prices, told in (((1, 2), (3, 2)), ((1, 1), (1, 1)), ((1, 1, 2), (4, 3)), ((3, 3, 3), (3, 1)), ((1, 1, 1, 2, 2, 2), (3, 2)),
                             ((99,) * 6, (99, 1)), ((99, 98), (197, 2)), ((1, 1, 1, 1, 1, 2), (7, 6)), ((2, 2, 2, 3, 3, 3), (5, 2))):
            rooms = list("abcdef")[:len(prices)]
            sort = Sort(rooms, [("d" + room, room, -1, (rooms * 2)[k + 1], prices[k]) for k, room in enumerate(rooms)])
            for room in rooms:
                self.assertEqual(rate(alike(sort), "left", room)[1:3], told)
                self.assertEqual(rate(alike(sort), "right", room)[0], "never")

    def test_a_way_that_must_first_be_gone(self):
        sort = Sort(list("abcd"), [("x", "a", -1, "b", 9), ("y", "b", 0, "c", 9), ("z", "c", 1, "c", 4), ("w", "c", -1, "d", 1),
                                   ("v", "a", 1, "a", 5)])
        for room, told in (("a", (4, 1)), ("b", (4, 1)), ("c", (4, 1))):
            answer = rate(alike(sort), "right", room)
            self.assertEqual(answer[1:3], told)
            self.assertEqual(gone(alike(sort), "right", room, answer[3])[0], "c")
            self.assertEqual(set(answer[4]), {"z"})
        self.assertEqual(rate(alike(sort), "right", "d")[0], "never")

    def test_a_round_that_goes_in_before_it_goes_out(self):
        sort = Sort(list("abc"), [("x", "a", -1, "b", 1), ("y", "b", 1, "c", 1), ("z", "c", 1, "a", 1), ("w", "a", 1, "a", 4)])
        answer = rate(alike(sort), "right", "a")
        self.assertEqual(answer[1:3], (3, 1))
        self.assertEqual(rate(alike(sort), "left", "a")[0], "never")

    def test_only_rounds_that_lead_in_or_back(self):
        sort = Sort(list("ab"), [("x", "a", -1, "b", 1), ("y", "b", 1, "a", 1), ("z", "b", 0, "b", 1), ("w", "a", -1, "a", 1)])
        self.assertEqual(rate(alike(sort), "right", "a")[0], "never")
        self.assertEqual(rate(alike(sort), "left", "a")[:3], ("price", 1, 1))

    def test_a_door_to_a_room_that_the_sort_has_not(self):
        sort = Sort(["a"], [("x", "a", 1, "b", 1), ("y", "a", 1, "a", 9)])
        street = Street(Sort(["a", "b"], [("z", "b", 1, "a", 1)]), 0, [], sort)
        self.assertEqual(rate(street, "right", "a")[1:3], (9, 1))

    def test_of_several_doors_the_cheapest(self):
        sort = Sort(["a", "b"], [("x", "a", 1, "b", 9), ("y", "a", 1, "b", 2), ("z", "b", 1, "a", 9), ("w", "b", 1, "a", 5)])
        self.assertEqual(rate(alike(sort), "right", "a")[1:3], (7, 2))

    def test_going_on_costs_no_less_and_a_told_round_just_that(self):
        # Ways out of a thousand houses more cost no less than the told price for each so many of them.
        for seed in range(40):
            street = linked_street(seed, most_odd=1)
            for side, out in OUT.items():
                for room in sort_of(street, side).rooms():
                    told = rate(street, side, room)
                    if told[0] == "price":
                        same = alike(sort_of(street, side))
                        numbers = told[5]
                        for goal in same.left().rooms():
                            way = way_to(same, (0, room), (out * 1000, goal))
                            if way is not None:
                                least = told[1] * 1000 + numbers[goal] - numbers[room]
                                self.assertGreaterEqual(way[0] * told[2], least)
                        self.assertEqual(Fraction(told[1], told[2]),
                                         Fraction(*gone(street, side, gone(street, side, room, told[3])[0], told[4])[2:0:-1]))

    def test_they_are_the_askers_own(self):
        for street, side, room in asked()[::4]:
            told = rate(street, side, room)
            before = copy.deepcopy(told)
            self.assertEqual(len(lists_and_dicts(told)), 1)
            spoil(told)
            self.assertEqual(shape(rate(street, side, room)), shape(before))

    def test_just_the_kinds_whatever_is_handed_in(self):
        class Word(str):
            pass

        for sort in (ONE, SHUT):
            told = rate(alike(sort), Word("right"), Word("a"))
            self.assertEqual(shape(told), shape(rate(alike(sort), "right", "a")))


class IsRate(Asked):

    def setUp(self):
        sort = Sort(list("abcd"), [("go", "a", 0, "b", 5), ("out", "b", 1, "c", 3), ("more", "c", 1, "b", 4), ("back", "c", -1, "c", 1),
                                   ("slow", "b", 1, "b", 9)])
        self.street = Street(SHUT, 0, [], sort)
        self.thing = ("price", 7, 2, ("go",), ("out", "more"), {"a": 0, "b": 10, "c": 9})

    def with_part(self, at, part):
        return (*self.thing[:at], part, *self.thing[at + 1:])

    def test_holds(self):
        self.ask(self.street, "right", "a", self.thing, True)
        for numbers in ({"b": 10, "c": 9, "a": 0}, {"c": 9, "a": 0, "b": 10}, {"a": -90, "b": -80, "c": -81},
                        {"a": 1, "b": 10, "c": 9}, {"a": 0, "b": 10, "c": 9, "d": 99}, {"a": HUGE, "b": 10, "c": 9}):
            self.ask(self.street, "right", "a", self.with_part(5, numbers), True)

    def test_the_round_otherwise(self):
        for ring, told in (
                (("out", "more") * 2, True), (("out", "more") * 9, True), (("out", "back", "more"), False), (("slow",), False),
                (("more", "out"), False), ((), False), (("out",), False), (("out", "more", "slow"), False), (["out", "more"], False),
                (("out", "more", "go"), False), (("nowhere",), False), (("Out",), False), ("out", False), (("out", None), False)):
            self.ask(self.street, "right", "a", self.with_part(4, ring), told)
        self.ask(self.street, "right", "a", ("price", 7, 2, ("go", "out"), ("more", "out"), self.thing[5]), True)
        self.ask(self.street, "right", "a", ("price", 7, 2, ("go", "out"), ("out", "more"), self.thing[5]), False)

    def test_the_way_otherwise(self):
        for way, told in (((), False), (("go", "slow"), True), (("go", "out", "more"), True), (("go", "out", "back", "more"), True),
                          (("go", "go"), False), (["go"], False), ("go", False), (None, False), (("out",), False), (("GO",), False),
                          (("go", "out"), False), ((1,), False)):
            self.ask(self.street, "right", "a", self.with_part(3, way), told)
        self.ask(self.street, "right", "b", ("price", 7, 2, (), ("out", "more"), {"b": 1, "c": 0}), True)

    def test_price_and_houses_otherwise(self):
        for price, houses, told in ((14, 4, False), (7, 1, False), (7, 3, False), (8, 2, False), (4, 1, False), (3, 1, False), (-7, -2, False),
                                    (0, 1, False), (7, 0, False), (True, 2, False), (7, True, False), ("7", 2, False), (7, None, False),
                                    (7 * HUGE, 2 * HUGE, False), ([7], 2, False), (9, 1, False), (7, -2, False)):
            thing = ("price", price, houses, *self.thing[3:])
            self.ask(self.street, "right", "a", thing, told)
            self.assertFalse(by_words(self.street, "right", "a", thing))

    def test_a_truth_for_one(self):
        self.ask(alike(ONE), "left", "a", ("price", 1, 1, (), ("in",), {"a": 0}), True)
        for price, houses, number in ((True, 1, 0), (1, True, 0), (1, 1, False), (1, 1, None), (1, 1, "0")):
            self.ask(alike(ONE), "left", "a", ("price", price, houses, (), ("in",), {"a": number}), False)
        self.ask(alike(SHUT), "left", "a", ("never", {"a": True}), False)
        self.ask(alike(SHUT), "left", "a", ("never", {"a": 1}), True)

    def test_numbers_otherwise(self):
        for numbers, told in (({"a": 0, "b": 11, "c": 9}, False), ({"a": 0, "b": 10, "c": 10}, False), ({"a": 0, "b": 10, "c": 8}, False),
                              ({"a": -1, "b": 10, "c": 9}, False), ({"b": 10, "c": 9}, False), ({"a": 0, "b": 10}, False),
                              ({"a": 0, "c": 9}, False), ({}, False), ({"a": 0, "b": 9, "c": 8}, True), ({"a": 0, "b": 9, "c": 9}, False),
                              ({"a": 0, "b": 10, "c": 9, "z": 0}, False), ({"a": 0, "b": 10, "c": 9, 1: 0}, False),
                              ({"a": 0, "b": 10, "c": 9, None: 0}, False), ({"a": 0, "b": 10, "c": 9, ("d",): 0}, False),
                              ([("a", 0)], False), (None, False), ({"a", "b", "c"}, False)):
            self.ask(self.street, "right", "a", self.with_part(5, numbers), told)
            self.assertEqual(by_words(self.street, "right", "a", self.with_part(5, numbers)), told)

    def test_each_door_in_the_numbers(self):
        # Of each answer, each number one greater or less, or out.
        for street, side, room in asked()[::2]:
            told = rate(street, side, room)
            for name in told[-1]:
                for add in (-1, 1):
                    self.ask(street, side, room, (*told[:-1], {**told[-1], name: told[-1][name] + add}))
                self.ask(street, side, room, (*told[:-1], {one: number for one, number in told[-1].items() if one != name}))
            self.ask(street, side, room, (*told[:-1], dict(reversed(told[-1].items()))), True)

    def test_what_is_told_of_another_room_or_side(self):
        for street, side, room in asked()[::3]:
            told = rate(street, side, room)
            for other in ("left", "right"):
                for name in sort_of(street, other).rooms():
                    self.ask(street, other, name, told)

    def test_so_many_times_as_much(self):
        for street, side, room in asked()[::5]:
            told = rate(street, side, room)
            if told[0] == "price":
                for many in (2, 3, 7):
                    self.ask(street, side, room, ("price", told[1] * many, told[2] * many, *told[3:]), False)
                    self.ask(street, side, room, (*told[:4], told[4] * many, told[5]), True)

    def test_never_and_price_exchanged(self):
        self.ask(self.street, "right", "a", ("never", self.thing[5]), False)
        self.ask(self.street, "right", "d", ("never", {"d": 0}), True)
        self.ask(self.street, "right", "d", ("price", {"d": 0}), False)
        self.ask(self.street, "right", "d", ("never", {"d": 0}, None), False)
        self.ask(self.street, "right", "a", ("never", *self.thing[1:]), False)
        self.ask(self.street, "right", "a", ("rate", *self.thing[1:]), False)

    def test_things_at_each_place(self):
        def words(part):
            if isinstance(part, str):
                yield from ("a", "b", "out", "more", "price", "never", "Price", "", 1, None, True)

        def numbers(part):
            if type(part) is int:
                yield from (part - 1, part + 1, -part, True, False, None, str(part), [part], HUGE)

        def others(part):
            if isinstance(part, dict):
                for name in part:
                    for change in (words, numbers, any_things):
                        for other in change(part[name]):
                            yield {**part, name: other}
                    for key in (1, True, None, "", "A", ("a",), "e"):
                        yield {**{one: part[one] for one in part if one != name}, key: part[name]}

        for change in (other_forms, any_things, words, numbers, others):
            for other in changed(self.thing, change):
                self.ask(self.street, "right", "a", other)
            for other in changed(("never", {"d": 3}), change):
                self.ask(self.street, "right", "d", other)

    def test_things_of_any_kind(self):
        for thing in things():
            for room in "ad":
                self.ask(self.street, "right", room, thing, False)


class Interface(unittest.TestCase):

    def test_each_is_defined_in_its_file(self):
        for one, names in ((rate, "(street, side, room)"), (is_rate, "(street, side, room, thing)")):
            self.assertEqual(one.__module__, rates.__name__)
            self.assertEqual(str(inspect.signature(one)), names)

    def test_by_names(self):
        told = rate(room="a", side="left", street=alike(ONE))
        self.assertEqual(told[:3], ("price", 1, 1))
        self.assertIs(is_rate(thing=told, room="a", side="left", street=alike(ONE)), True)

    def test_the_street_is_as_it_was(self):
        street, same = linked_street(5), linked_street(5)
        is_rate(street, "left", "a", rate(street, "left", "a"))
        self.assertEqual(street, same)


if __name__ == "__main__":
    unittest.main()
