"""Numbers (points 28, 29 and 4)."""

import copy
import inspect
import random
import re
import unittest

from likehouses import numbers as module
from likehouses.errors import TooFar
from likehouses.numbers import are_numbers, number_at, numbers_of
from likehouses.streets import Sort, Street
from likehouses.telling import way_to
from tests.samples import (Doors, FarPrices, alike, any_things, changed, chance_street, linked_street, lists_and_dicts,
                           other_forms, prices_found, ring_sort, shape, spoil, streets_and_stands, things)

HUGE = 123456789012345678901234567890
BIG = 10 ** 30
FAR = 10 ** 12 - 1
ONE = Sort(["a"], [("in", "a", -1, "a", 1), ("out", "a", 1, "a", 2)])
SHUT = Sort(["a", "b"], [])
SPARE = Sort(["a", "b", "c"], [])


def by_piece(pieces, further, room):
    """The number of a house so many behind the stretch's end, by the words of point 28."""
    for times, rows, more in pieces:
        if times is not None and further >= times * len(rows):
            further -= times * len(rows)
        else:
            place = further % len(rows)
            return rows[place][room] + further // len(rows) * more[place][room] if room in rows[place] else None


def number_of(thing, house, room):
    first, stretch, left, right = thing
    if house < first:
        return by_piece(left, first - 1 - house, room)
    if house < first + len(stretch):
        return stretch[house - first].get(room)
    return by_piece(right, house - first - len(stretch), room)


def are_rows(thing, least, most):
    return (type(thing) is list and least <= len(thing) <= most
            and all(type(row) is dict and all(type(name) is str and re.fullmatch("[a-z]{1,8}", name)
                                              and type(number) is int for name, number in row.items()) for row in thing))


def are_pieces(thing):
    if type(thing) is not list or not 1 <= len(thing) <= 2000:
        return False
    for at, piece in enumerate(thing):
        if type(piece) is not tuple or len(piece) != 3:
            return False
        times, rows, more = piece
        if times is None or at == len(thing) - 1:
            if times is not None or at != len(thing) - 1:
                return False
        elif type(times) is not int or not 1 <= times <= BIG:
            return False
        if not are_rows(rows, 1, 60) or not are_rows(more, 1, 60):
            return False
        if [set(row) for row in rows] != [set(row) for row in more]:
            return False
    return True


def houses_of(pieces):
    """How many houses are to be looked at: all of short pieces; twice the last one's round shows no more but growth."""
    return sum(len(rows) * (3 if times is None else times) for times, rows, _ in pieces)


def by_words(street, stand, thing):
    """Whether a thing is numbers that are let by, each house of all pieces but the last looked at (so: short ones)."""
    if type(thing) is not tuple or len(thing) != 4 or type(thing[0]) is not int or abs(thing[0]) > 999:
        return False
    first, stretch, left, right = thing
    if not are_rows(stretch, 0, 999) or not are_pieces(left) or not are_pieces(right):
        return False
    behind, doors = first + len(stretch), Doors(street)
    if not all(first <= house < behind for house in range(street.first() - 1, street.first() + len(street) + 1)):
        return False
    number = number_of(thing, *stand)
    if number is None or number > 0:
        return False
    low, high = first - houses_of(left), behind + houses_of(right)
    # For ever: far out in the last piece, where any growth would show.
    far = [BIG * 10 + k for k in range(2 * len(right[-1][1]))], [-BIG * 10 - k for k in range(2 * len(left[-1][1]))]
    for house in [*range(low, high), *far[0], *far[1]]:
        names = set()
        if first <= house < behind:
            names = set(stretch[house - first])
        else:
            pieces = left if house < first else right
            names = {name for _, rows, _ in pieces for row in rows for name in row
                     if number_of(thing, house, name) is not None}
        if not names <= set(doors.rooms(house)):
            return False
        for room in names:
            for _, (goal, price) in doors.there(house, room):
                there = number_of(thing, *goal)
                if there is None or there > number_of(thing, house, room) + price:
                    return False
    return True


class NumberAt(unittest.TestCase):

    NUMBERS = (-2, [{"a": 5}, {"b": -7, "c": 0}, {}],
               [(2, [{"a": 1}, {"b": 2}, {}], [{"a": 10}, {"b": -20}, {}]), (1, [{"a": 3, "c": 4}], [{"a": 5, "c": 6}]),
                (None, [{"d": 100}, {"d": 200}], [{"d": 1}, {"d": 0}])],
               [(BIG, [{"a": 1}], [{"a": -1}]), (1, [{"b": -1}], [{"b": 9}]), (None, [{"a": 0}], [{"a": 7}])])

    def ask(self, house, room, told, thing=None):
        thing = self.NUMBERS if thing is None else thing
        before = copy.deepcopy(thing)
        self.assertEqual(shape(number_at(thing, house, room)), shape(told), (house, room))
        self.assertEqual(shape(thing), shape(before))

    def test_the_stretch(self):
        for house, room, told in ((-2, "a", 5), (-2, "b", None), (-1, "b", -7), (-1, "c", 0), (-1, "a", None), (0, "a", None),
                                  (0, "nowhere", None)):
            self.ask(house, room, told)

    def test_each_time_of_a_round(self):
        for house, room, told in ((-3, "a", 1), (-4, "b", 2), (-5, "a", None), (-6, "a", 11), (-7, "b", -18), (-8, "b", None),
                                  (-9, "a", 3), (-9, "c", 4), (-9, "d", None), (-10, "d", 100), (-11, "d", 200), (-12, "d", 101),
                                  (-13, "d", 200), (-13, "a", None), (-14, "d", 102)):
            self.ask(house, room, told)

    def test_the_last_house_of_many_times_and_the_first_behind(self):
        for house, room, told in ((1, "a", 1), (2, "a", 0), (3, "a", -1), (BIG - 1, "a", 3 - BIG), (BIG, "a", 2 - BIG),
                                  (BIG, "b", None), (BIG + 1, "b", -1), (BIG + 1, "a", None), (BIG + 2, "a", 0),
                                  (BIG + 3, "a", 7), (BIG + 4, "b", None)):
            self.ask(house, room, told)

    def test_forty_figures(self):
        last = 10 ** 40 - 1
        self.ask(last, "a", 7 * (last - BIG - 2))
        self.ask(last, "b", None)
        self.ask(-last, "d", 200 if last % 2 else 0)
        self.ask(1 - last, "d", 100 + (last - 1 - 10) // 2)

    def test_rounds_of_sixty_rows(self):
        rows = [{"a": k} for k in range(60)]
        more = [{"a": 1000 * k} for k in range(60)]
        for times in (1, 2, BIG):
            thing = (5, [], [(None, [{}], [{}])], [(times, rows, more), (None, [{"a": -1}], [{"a": -2}])])
            for time in {0, 1, times // 2, times - 1} - set(range(times, 2)):
                for place in (0, 1, 30, 58, 59):
                    self.ask(5 + 60 * time + place, "a", place + 1000 * place * time, thing)
            self.ask(5 + 60 * times, "a", -1, thing)
            self.ask(5 + 60 * times + 8, "a", -17, thing)
            self.ask(4, "a", None, thing)

    def test_wherever_the_stretch_lies(self):
        for first in (-10 ** 39, -999, 999, HUGE):
            thing = (first, [{"a": 1}, {"a": 2}], [(None, [{"a": 3}], [{"a": 1}])], [(None, [{"a": 4}], [{"a": -1}])])
            for house, told in ((first - 3, 5), (first - 1, 3), (first, 1), (first + 1, 2), (first + 2, 4), (first + 9, -3)):
                self.ask(house, "a", told, thing)

    def test_an_empty_stretch(self):
        thing = (3, [], [(None, [{"a": 1}], [{"a": 1}])], [(None, [{"b": 2}], [{"b": 1}])])
        for house, room, told in ((2, "a", 1), (3, "b", 2), (3, "a", None), (2, "b", None), (1, "a", 2), (4, "b", 3)):
            self.ask(house, room, told, thing)

    def test_two_thousand_pieces(self):
        pieces = [(1, [{"a": k}], [{"a": 0}]) for k in range(1999)] + [(None, [{"a": -5}], [{"a": 1}])]
        thing = (0, [{}], pieces, pieces)
        for k in (0, 1, 1000, 1998):
            self.ask(1 + k, "a", k, thing)
            self.ask(-1 - k, "a", k, thing)
        self.ask(2000, "a", -5, thing)
        self.ask(-2010, "a", 5, thing)


class Told(unittest.TestCase):

    def test_they_are_let_by(self):
        for street, stand in streets_and_stands(150):
            told = numbers_of(street, stand)
            self.assertIs(are_numbers(street, stand, told), True)

    def test_they_are_let_by_by_the_words(self):
        for street, stand in streets_and_stands(40):
            told = numbers_of(street, stand)
            if houses_of(told[2]) + houses_of(told[3]) < 3000:
                self.assertTrue(by_words(street, stand, told))

    def test_least_prices_near(self):
        for street, stand in streets_and_stands(60):
            told, found = numbers_of(street, stand), prices_found(street, stand, -260, 260)
            for house in range(-180, 181):
                for room in street.sort_at(house).rooms():
                    self.assertEqual(number_at(told, house, room), found.get((house, room)), (street.first(), stand))
                self.assertIsNone(number_at(told, house, "nowhere"))

    def test_least_prices_far(self):
        for seed, (street, stand) in enumerate(streets_and_stands(50)):
            chance, told, far = random.Random(seed), numbers_of(street, stand), FarPrices(street, stand)
            for house in (FAR, -FAR, chance.randint(-FAR, FAR), 10 ** 25 + 7, -10 ** 25, chance.randint(-9999, 9999)):
                for room in street.sort_at(house).rooms():
                    self.assertEqual(number_at(told, house, room), far.at(house, room))

    def test_just_as_ways_are_told(self):
        for street, stand in streets_and_stands(20):
            told = numbers_of(street, stand)
            for house in (stand[0], stand[0] + 1, stand[0] - 70, FAR - 3, 3 - FAR):
                for room in street.sort_at(house).rooms():
                    way = way_to(street, stand, (house, room))
                    self.assertEqual(number_at(told, house, room), None if way is None else way[0])

    def test_two_roads_that_meet_far_out(self):
        # To come to the cheap road b one goes in to the left side's end and back: it is worth it far out.
        left = Sort(["a", "b"], [("turn", "a", 0, "b", 99), ("go", "b", 1, "b", 99)])
        for slow, fast in ((99, 98), (50, 49), (99, 1), (2, 1)):
            right = Sort(["a", "b"], [("in", "a", -1, "a", 99), ("out", "a", 1, "a", slow), ("go", "b", 1, "b", fast),
                                      ("down", "b", 0, "a", 7)])
            street, stand = Street(left, 0, [], right), (60, "a")
            told = numbers_of(street, stand)
            self.assertIs(are_numbers(street, stand, told), True)
            self.assertLess(len(told[3]), 6)
            self.assertIs(told[3][-1][0], None)
            self.assertEqual(len(told[3][-1][1]), 1)
            self.assertLess(sum(len(rows) for _, rows, _ in told[3]), 200)
            begin = 61 * 99 + 99 + 99
            turning = (begin + 60 * fast + 7) // (slow - fast)
            for out in (1, 2, 500, turning - 1, turning, turning + 1, turning + 60, turning + 61, 10 ** 9, 10 ** 30):
                house = 60 + out
                self.assertEqual(number_at(told, house, "b"), begin + fast * house)
                self.assertEqual(number_at(told, house, "a"), min(slow * out, begin + fast * house + 7))

    def test_roads_by_chance(self):
        # Of several roads, some with rings, each is the cheapest one for some while.
        long = 0
        rooms = list("abcdef")
        for seed in range(60):
            chance = random.Random(seed)
            rings = chance.choice([["a", "bc", "def"], ["ab", "cde", "f"], ["a", "b", "cd", "ef"], ["abc", "def"], ["ab", "cd", "ef"]])
            doors = [(room, 1, (ring * 2)[at + 1], 60 - k + chance.randint(-1, 1)) for k, ring in enumerate(rings)
                     for at, room in enumerate(ring)]
            doors += [(chance.choice(rings[k]), 0, chance.choice(rings[k + 1]), 99) for k in range(len(rings) - 1)]
            while len(doors) < chance.randint(8, 12):
                doors.append((chance.choice(rooms), chance.choice([0, 1]), chance.choice(rooms), 99))
            sort = Sort(rooms, [("d" + "abcdefghijkl"[k], *door) for k, door in enumerate(doors)])
            out = chance.choice([-1, 1])
            turned = Sort(rooms, [(name, room, out * move, goal, price) for name, room, move, goal, price in sort.doors()])
            told = numbers_of(alike(turned), (0, "a"))
            self.assertIs(are_numbers(alike(turned), (0, "a"), told), True)
            long += any(times is not None and times > 2 for times, _, _ in told[2] + told[3])
            row = self.within(sort, {"a": 0})
            for house in range(1500):
                for room in rooms:
                    self.assertEqual(number_at(told, out * house, room), row.get(room), (seed, house))
                row = self.further_out(sort, row)
        self.assertGreater(long, 5)

    def within(self, sort, row):
        """Least prices of a house, its doors within it gone, too."""
        row = dict(row)
        for _ in range(6):
            for _, room, move, goal, price in sort.doors():
                if move == 0 and room in row:
                    row[goal] = min(row.get(goal, row[room] + price), row[room] + price)
        return row

    def further_out(self, sort, row):
        """Least prices of the next house out, no door leading in."""
        there = {}
        for _, room, move, goal, price in sort.doors():
            if move == 1 and room in row:
                there[goal] = min(there.get(goal, row[room] + price), row[room] + price)
        return self.within(sort, there)

    def test_roads_that_cross_one_after_the_other(self):
        # Ever cheaper roads, each dearer to come to; all three rooms' numbers change their roads at unlike houses.
        for ups in ((50, 99), (99, 7), (90, 91), (3, 99)):
            for slow in (9, 31, 80):
                sort = Sort(list("abc"), [("oa", "a", 1, "a", slow + 2), ("ob", "b", 1, "b", slow + 1), ("oc", "c", 1, "c", slow),
                                          ("ab", "a", 0, "b", ups[0]), ("bc", "b", 0, "c", ups[1]), ("cb", "c", 0, "b", 60),
                                          ("ba", "b", 0, "a", 33)])
                told = numbers_of(alike(sort), (0, "a"))
                self.assertIs(are_numbers(alike(sort), (0, "a"), told), True)
                row = self.within(sort, {"a": 0})
                for house in range(700):
                    self.assertEqual([number_at(told, house, room) for room in "abc"], [row[room] for room in "abc"])
                    row = self.further_out(sort, row)

    def test_rings(self):
        for goals, many in (("a", 1), ("ba", 2), ("bca", 3), ("bcda", 4), ("bcdea", 5), ("bcdefa", 6), ("bacdef", 2)):
            for out in (-1, 1):
                street = alike(ring_sort(goals, out=out))
                told = numbers_of(street, (0, "a"))
                self.assertIs(are_numbers(street, (0, "a"), told), True)
                # Told shortly: of no more rows than come again.
                self.assertEqual([(times, len(rows)) for times, rows, _ in told[3 if out > 0 else 2]], [(None, many)])
                for houses in (0, 1, 2, 3, 4, 5, 6, 7, 59, 60, 61, 119, 120, 121, 1000, 10 ** 20, 10 ** 20 + 1):
                    for k, room in enumerate(street.left().rooms()):
                        price = houses if k < many and houses % many == k else None
                        self.assertEqual(number_at(told, out * houses, room), price)
                        self.assertIsNone(number_at(told, -out * (houses + 1), room))

    def test_rings_of_unlike_lengths_that_meet(self):
        # A room's rings of four, five and six houses would be too many rooms; rings of two, three and four share some.
        sort = Sort(list("abcdef"), [("oa", "a", 1, "b", 1), ("ob", "b", 1, "a", 3), ("oc", "b", 1, "c", 1), ("od", "c", 1, "a", 4),
                                     ("oe", "c", 1, "d", 1), ("of", "d", 1, "a", 4), ("og", "d", 1, "e", 1), ("oh", "e", 1, "f", 1),
                                     ("oi", "f", 1, "a", 6)])
        for right in (sort, Sort(sort.rooms(), [(name, room, move, goal, 100 - price)
                                                for name, room, move, goal, price in sort.doors()])):
            street = alike(right)
            told, found = numbers_of(street, (0, "a")), prices_found(street, (0, "a"), 0, 900)
            for house in range(900):
                for room in "abcdef":
                    self.assertEqual(number_at(told, house, room), found.get((house, room)))

    def test_rooms_that_cannot_be_come_to_have_none(self):
        street = Street(SPARE, 0, [SHUT], SPARE)
        told = numbers_of(street, (0, "a"))
        self.assertEqual({(house, room) for house in range(-99, 99) for room in "abc"
                          if number_at(told, house, room) is not None}, {(0, "a")})
        self.assertEqual(number_at(told, 0, "a"), 0)

    def test_their_form(self):
        for street, stand in streets_and_stands(60):
            told = numbers_of(street, stand)
            self.assertEqual([type(part) for part in told], [int, list, list, list])
            self.assertTrue(are_rows(told[1], 0, 999) and are_pieces(told[2]) and are_pieces(told[3]))
            kept = lists_and_dicts(told)
            self.assertEqual(len({id(part) for part in kept}), len(kept))

    def test_they_are_the_askers_own(self):
        for street, stand in streets_and_stands(25):
            told = numbers_of(street, stand)
            before = copy.deepcopy(told)
            spoil(told)
            self.assertEqual(shape(numbers_of(street, stand)), shape(before))

    def test_no_numbers_lift_a_stand_above_its_least_price(self):
        # Numbers by chance, let by, are nowhere greater than the least prices.
        let_by = 0
        for seed in range(60):
            chance, street = random.Random(seed), linked_street(seed, most_odd=2, rooms=3)
            house = chance.randint(max(-60, street.first() - 2), min(60, street.first() + 3))
            stand = (house, chance.choice(street.sort_at(house).rooms()))
            told = numbers_of(street, stand)
            for _ in range(12):
                thing = copy.deepcopy(told)
                row = chance.choice([*thing[1], *thing[2][0][1], *thing[3][0][1], *thing[2][-1][2], *thing[3][-1][2]])
                if row:
                    row[chance.choice(sorted(row))] += chance.choice([-2, -1, 1])
                if are_numbers(street, stand, thing):
                    let_by += 1
                    for house in (*range(-60, 60), FAR, -FAR):
                        for room in street.sort_at(house).rooms():
                            least = number_at(told, house, room)
                            if least is not None:
                                self.assertLessEqual(number_at(thing, house, room), least)
        self.assertGreater(let_by, 20)


class Looked(unittest.TestCase):
    """The street has a door out and one in in each house, so numbers are bound from both sides."""

    def setUp(self):
        self.street = Street(ONE, 0, [ONE], ONE)
        self.stand = (0, "a")
        # Out costs 2 to the right, 1 to the left.
        self.numbers = (-1, [{"a": 1}, {"a": 0}, {"a": 2}], [(None, [{"a": 2}], [{"a": 1}])], [(None, [{"a": 4}], [{"a": 2}])])

    def ask(self, thing, told=None, street=None, stand=None):
        street, stand = self.street if street is None else street, stand or self.stand
        before = copy.deepcopy(thing)
        told = by_words(street, stand, thing) if told is None else told
        self.assertIs(are_numbers(street, stand, thing), told)
        self.assertEqual(shape(thing), shape(before))

    def zeros(self, first, many, left=1, right=1):
        """Numbers nought everywhere, with so many rows and rounds so long."""
        return (first, [{"a": 0} for _ in range(many)], [(None, [{"a": 0}] * left, [{"a": 0}] * left)],
                [(None, [{"a": 0}] * right, [{"a": 0}] * right)])

    def test_let_by(self):
        first, stretch, left, right = self.numbers
        for thing in (self.numbers, self.zeros(-1, 3), self.zeros(-5, 20, 60, 60),
                      (first, stretch, left, [(3, [{"a": 4}], [{"a": 2}]), (None, [{"a": 10}], [{"a": 2}])]),
                      (first, stretch, left, [(1, [{"a": 4}, {"a": 6}], [{"a": 0}, {"a": 99}]), (None, [{"a": 8}], [{"a": 2}])]),
                      (first, stretch, left, [(BIG, [{"a": 4}], [{"a": 2}]), (None, [{"a": 4 + 2 * BIG}], [{"a": 2}])]),
                      (first, [{"a": -3}, {"a": -4}, {"a": -2}], [(None, [{"a": -2}], [{"a": 1}])], [(None, [{"a": -1}], [{"a": 0}])])):
            self.ask(thing, True)

    def test_less_than_the_least_prices(self):
        first, stretch, left, right = self.numbers
        for less in (1, 5, HUGE):
            self.ask((first, [{"a": row["a"] - less} for row in stretch], [(None, [{"a": 2 - less}], [{"a": 1}])],
                      [(None, [{"a": 4 - less}], [{"a": 2}])]), True)
        for step in (-1, 0, 1, 2, 3):
            self.ask((first, stretch, left, [(None, [{"a": 4}], [{"a": step}])]), -1 <= step <= 2)
            self.ask((first, stretch, [(None, [{"a": 2}], [{"a": step}])], right), -2 <= step <= 1)

    def test_each_part_of_another_kind(self):
        def words(part):
            if isinstance(part, str):
                yield from ("b", "", "A", "abcdefghi", 1, None, True, ["a"], ("a",))

        def numbers(part):
            if type(part) is int:
                yield from (part - 1, part + 1, -999, -1000, 999, 1000, True, False, None, str(part), [part])

        def others(part):
            if isinstance(part, dict):
                yield from ({}, {"b": 1}, {**part, "b": 0}, {**part, "A": 1}, {"a": True}, {"a": None}, {"a": "1"}, {True: 1},
                            {None: 1}, {("a",): 1}, {1: 1}, {"": 0}, {**part, "": 0}, {**part, 1: 0}, {"a": [1]}, [("a", 1)],
                            list(part.items()), tuple(part.items()))

        thing = (-1, [{"a": 1}, {"a": 0}, {"a": 2}], [(2, [{"a": 2}], [{"a": 1}]), (None, [{"a": 4}], [{"a": 1}])],
                 [(1, [{"a": 4}], [{"a": 2}]), (None, [{"a": 6}], [{"a": 2}])])
        self.ask(thing, True)
        for change in (other_forms, any_things, words, numbers, others):
            for other in changed(thing, change):
                # What is none by its form alone; what else is, is told by the words.
                self.ask(other)

    def test_a_truth_for_a_number(self):
        room = Sort(["a"], [])
        street = Street(room, 1, [], room)
        for one, told in ((0, True), (False, False)):
            thing = (one, [{"a": one}, {"a": 0}], [(None, [{"a": 0}], [{"a": 0}])], [(None, [{"a": 0}], [{"a": 0}])])
            self.ask(thing, told, street, (0, "a"))
            self.ask((0, [{"a": one}, {"a": 0}], *thing[2:]), told, street, (0, "a"))
            self.ask((0, [{"a": 0}] * 2, [(None, [{"a": one}], [{"a": 0}])], thing[3]), told and None, street, (0, "a"))
        zero = [(None, [{"a": 0}], [{"a": 0}])]
        for piece, told in (((1, [{"a": 0}], [{"a": 0}]), True), ((True, [{"a": 0}], [{"a": 0}]), False),
                            ((1, [{"a": False}], [{"a": 0}]), False), ((1, [{"a": 0}], [{"a": False}]), False)):
            self.ask((0, [{"a": 0}] * 2, [piece] + zero, zero), told, street, (0, "a"))
            self.ask((0, [{"a": 0}] * 2, zero, [piece] + zero), told, street, (0, "a"))

    def test_first_and_how_long_the_stretch_is(self):
        for first, many, told in ((-999, 999, False), (-998, 999, False), (-997, 999, True), (-1000, 999, False), (-1, 999, True),
                                  (-1, 1000, False), (-1, 3, True), (-1, 2, False), (0, 3, False), (-2, 4, True), (-2, 3, False),
                                  (-1, 0, False)):
            self.ask(self.zeros(first, many), told)
        street = Street(ONE, -50, [ONE], ONE)
        for first, many, told in ((-999, 999, True), (-1000, 999, False), (-999, 1000, False), (-999, 950, False),
                                  (-999, 951, True)):
            self.ask(self.zeros(first, many), told, street)
        for first in (999, 1000, HUGE, -HUGE):
            self.ask(self.zeros(first, 999), False)

    def test_the_stretch_has_the_odd_houses_and_one_more_on_each_side(self):
        for many in (0, 1, 3, 8):
            for first in (-50, 0, 50):
                street = Street(ONE, first, [ONE] * many, ONE)
                for begin in range(first - 3, first + 2):
                    for end in range(max(begin - 1, first + many - 3), first + many + 3):
                        self.ask(self.zeros(begin, end - begin + 1), begin <= first - 1 and end >= first + many, street, (first, "a"))

    def test_how_long_rounds_are(self):
        for many, told in ((0, False), (1, True), (2, True), (59, True), (60, True), (61, False), (120, False)):
            self.ask(self.zeros(-1, 3, many, 1), told)
            self.ask(self.zeros(-1, 3, 1, many), told)
            first, stretch, left, right = self.zeros(-1, 3)
            piece = (2, [{"a": 0}] * many, [{"a": 0}] * many)
            self.ask((first, stretch, [piece] + left, right), told)
            self.ask((first, stretch, left, [piece] + right), told)

    def test_how_many_pieces(self):
        first, stretch, left, right = self.zeros(-1, 3)
        piece = (1, [{"a": 0}], [{"a": 0}])
        for many, told in ((1, True), (1998, True), (1999, True), (2000, False), (2500, False)):
            self.ask((first, stretch, [piece] * many + left, right), told)
            self.ask((first, stretch, left, [piece] * many + right), told)
        self.ask((first, stretch, [], right), False)
        self.ask((first, stretch, left, []), False)

    def test_times(self):
        first, stretch, left, right = self.zeros(-1, 3)
        for times, told in ((0, False), (-1, False), (1, True), (2, True), (3, True), (BIG, True), (BIG + 1, False), (None, False),
                            (True, False), ("1", False), ([1], False), ((), False)):
            piece = (times, [{"a": 0}], [{"a": 0}])
            self.ask((first, stretch, [piece] + left, right), told)
            self.ask((first, stretch, left, [piece] + right), told)
        for times in (1, 2, BIG, 0, True):
            piece = (times, [{"a": 0}], [{"a": 0}])
            for pieces in ([piece], left + [piece], [piece, piece]):
                self.ask((first, stretch, pieces, right), False)
                self.ask((first, stretch, left, pieces), False)
        self.ask((first, stretch, left + left, right), False)
        self.ask((first, stretch, left, right + right), False)

    def test_more_and_round_unlike(self):
        first, stretch, left, right = self.zeros(-1, 3)
        for rows, more in (([{"a": 0}], []), ([{"a": 0}], [{"a": 0}] * 2), ([{"a": 0}] * 2, [{"a": 0}]), ([], []),
                           ([{"a": 0}], [{}]), ([{"a": 0}], [{"a": 0, "b": 0}]), ([{"a": 0}], [{"b": 0}]),
                           ([{"a": 0}, {}], [{}, {"a": 0}]), ([{"a": 0}, {"a": 0}], [{"a": 0}, {}]),
                           ([{"a": 0}, {"a": 0}], [{}, {"a": 0}]), ([{"a": 0}, {}], [{"a": 0}, {"a": 0}]),
                           ([{}, {"a": 0}], [{"a": 0}, {"a": 0}])):
            for times in (1, 5, None):
                for pieces in ([(times, rows, more)], [(times, rows, more)] + left):
                    self.ask((first, stretch, pieces, right), False)
                    self.ask((first, stretch, left, pieces), False)

    def test_a_room_that_the_house_has_not(self):
        # Room c is one of house 0 and of the right side alone; without a door no number is bound.
        street = Street(SHUT, 0, [SPARE, SHUT], SPARE)
        full = (-2, [{"a": 1} for _ in range(6)], [(2, [{"a": 1}], [{"a": 1}]), (None, [{"a": 1}], [{"a": 1}])],
                [(2, [{"a": 1}], [{"a": 1}]), (None, [{"a": 1}], [{"a": 1}])])
        full[1][2]["a"] = 0
        self.ask(full, True, street)
        for room in "bcd":
            for k in range(6):
                thing = copy.deepcopy(full)
                thing[1][k][room] = 9
                self.ask(thing, room == "b" or room == "c" and k in (2, 4, 5), street)
            for part in (2, 3):
                for k in (0, 1):
                    thing = copy.deepcopy(full)
                    thing[part][k][1][0][room] = thing[part][k][2][0][room] = 9
                    self.ask(thing, room == "b" or room == "c" and part == 3, street)

    def test_the_first_stands_number(self):
        room = Sort(["a", "b"], [])
        street = Street(room, 0, [room], room)
        for house in (-60, -30, -5, -1, 0, 1, 2, 5, 30, 60):
            for number in (None, -HUGE, -1, 0, 1, HUGE):
                stretch, pieces = [{"b": 0} for _ in range(3)], {"left": [], "right": []}
                row = {"b": 0} if number is None else {"a": number}
                if abs(house) <= 1:
                    stretch[house + 1] = row
                for side, out in (("left", -1), ("right", 1)):
                    further = out * house - 2
                    if further >= 0:
                        if further:
                            pieces[side].append((further, [{}], [{}]))
                        pieces[side].append((1, [row], [{name: 7 for name in row}]))
                    pieces[side].append((None, [{}], [{}]))
                thing = (-1, stretch, pieces["left"], pieces["right"])
                self.ask(thing, number is not None and number <= 0, street, (house, "a"))

    def test_a_number_greater_by_one_at_each_place(self):
        first, stretch, _, _ = self.numbers
        left = [(3, [{"a": 2}, {"a": 3}], [{"a": 2}, {"a": 2}]), (1, [{"a": 8}], [{"a": 0}]), (2, [{"a": 9}], [{"a": 1}]),
                (None, [{"a": 11}, {"a": 12}, {"a": 13}], [{"a": 3}] * 3)]
        right = [(3, [{"a": 4}, {"a": 6}], [{"a": 4}, {"a": 4}]), (1, [{"a": 16}], [{"a": 0}]), (2, [{"a": 18}], [{"a": 2}]),
                 (None, [{"a": 22}, {"a": 24}, {"a": 26}], [{"a": 6}] * 3)]
        whole = (first, stretch, left, right)
        self.ask(whole, True)
        for k in range(3):
            for add in (-1, 1, 2):
                thing = copy.deepcopy(whole)
                thing[1][k]["a"] += add
                self.ask(thing, False if add > 0 else None)
        for part in (2, 3):
            for at, (times, rows, _) in enumerate(whole[part]):
                for which in (1, 2):
                    for k in range(len(rows)):
                        for add in (-3, -2, -1, 1):
                            thing = copy.deepcopy(whole)
                            thing[part][at][which][k]["a"] += add
                            # What is added counts from the second time on.
                            self.ask(thing, True if which == 2 and times == 1 else False if add > 0 else None)

    def test_a_goal_without_a_number(self):
        thing = (-2, [{"a": 0} for _ in range(5)], [(2, [{"a": 0}], [{"a": 0}]), (None, [{"a": 0}, {"a": 0}], [{"a": 0}] * 2)],
                 [(2, [{"a": 0}], [{"a": 0}]), (None, [{"a": 0}, {"a": 0}], [{"a": 0}] * 2)])
        self.ask(thing, True)
        for k in range(5):
            less = copy.deepcopy(thing)
            less[1][k].clear()
            self.ask(less, False)
        for part in (2, 3):
            for at, k in ((0, 0), (1, 0), (1, 1)):
                less = copy.deepcopy(thing)
                less[part][at][1][k].clear()
                less[part][at][2][k] = {}
                self.ask(less, False)

    def test_each_door_alone(self):
        # One door way, in or out or within, on one side: at each place of pieces a goal one too great or missing.
        for move in (-1, 0, 1):
            sort = Sort(["a", "b"], [("go", "a", move, "b", 3)])
            street = Street(sort, 0, [sort], sort)
            rows = [{"a": 0, "b": 3}, {"a": 0, "b": 3}]
            more = [{"a": 0, "b": 0}, {"a": 0, "b": 0}]
            pieces = [(2, rows, more), (5, rows[:1], more[:1]), (None, rows, more)]
            whole = (-2, [{"a": 0, "b": 3} for _ in range(5)], pieces, copy.deepcopy(pieces))
            self.ask(whole, True, street)
            places = [(1, k) for k in range(5)] + [(part, at, which, k) for part in (2, 3) for at in range(3) for which in (1, 2)
                                                  for k in range(len(pieces[at][1]))]
            for place in places:
                for room, add in (("a", -1), ("a", 1), ("b", -1), ("b", 1)):
                    thing = copy.deepcopy(whole)
                    row = thing
                    for k in place:
                        row = row[k]
                    row[room] += add
                    self.ask(thing, None, street, (0, "a") if add < 0 or place != (1, 2) else (1, "a"))
            for place in [place for place in places if len(place) == 2 or place[2] == 1]:
                for room in "ab":
                    thing = copy.deepcopy(whole)
                    row = thing
                    for k in place:
                        row = row[k]
                    del row[room]
                    if len(place) == 4:
                        del thing[place[0]][place[1]][2][place[3]][room]
                    self.ask(thing, None, street, (0, "a") if place != (1, 2) else (1, "a"))

    def test_a_break_that_shows_only_at_some_time(self):
        # Room b's number may be at most a's and 10; a's grows by 0, b's as said, so that it breaks when it comes above.
        sort = Sort(["a", "b"], [("up", "a", 0, "b", 10)])
        street = Street(sort, 0, [sort], sort)
        base = (-1, [{"a": 0} | {"b": 0} for _ in range(3)])
        last = [(None, [{"a": 0, "b": 0}], [{"a": 0, "b": 0}])]
        for times in (1, 2, 3, 4, 5, 9, BIG):
            for breaks_at in (1, 2, 3, times - 2, times - 1, times):
                if breaks_at < 1:
                    continue
                # From b's 0 on: 10 at the time ahead of the break.
                rises = ((10 // breaks_at) + 1, True) if breaks_at <= 10 else (1, False)
                start = 11 - breaks_at * rises[0]
                piece = (times, [{"a": 0, "b": start}], [{"a": 0, "b": rises[0]}])
                told = breaks_at >= times
                self.ask((*base, [piece] + last, last), told, street)
                self.ask((*base, last, [piece] + last), told, street)
                # The other way round: it holds from that time on alone.
                falls = (times, [{"a": 0, "b": start + (times - 1) * rises[0]}], [{"a": 0, "b": -rises[0]}])
                self.ask((*base, [falls] + last, last), told, street)
                self.ask((*base, last, [falls] + last), told, street)

    def test_a_break_between_one_time_and_the_next(self):
        # Each house's door out leads to a number by 1 greater; rounds of two houses.
        for move in (-1, 1):
            sort = Sort(["a"], [("go", "a", move, "a", 1)])
            street = Street(sort, 0, [sort], sort)
            for times in (1, 2, 3, 4, 7, BIG):
                for second in (-1, 0, 1, 2, 3):
                    for rise in (-3, -2, -1, 0, 1, 2, 3):
                        for side in (2, 3):
                            thing = [-1, [{"a": 0}] * 3, [(None, [{"a": 0}], [{"a": 0}])], [(None, [{"a": 0}], [{"a": 0}])]]
                            end = (times - 1) * rise + second
                            # Behind it as it ends, so that nothing else breaks.
                            last = (None, [{"a": end}], [{"a": 0}])
                            thing[side] = [(times, [{"a": 0}, {"a": second}], [{"a": rise}, {"a": rise}]), last]
                            out = move == (1 if side == 3 else -1)
                            ring = [second, rise - second] if times > 1 else [second]
                            self.ask(tuple(thing), all((step if out else -step) <= 1 for step in ring), street)

    def test_growth_for_ever(self):
        for move in (-1, 0, 1):
            sort = Sort(["a", "b"], [("go", "a", move, "b", 99)])
            street = Street(sort, 0, [sort], sort)
            for many in (1, 2, 3):
                for k in range(many):
                    for room in "ab":
                        for add in (-1, 1):
                            rows = [{"a": 0, "b": 0} for _ in range(many)]
                            more = copy.deepcopy(rows)
                            more[k][room] += add
                            piece, flat = (None, rows, more), (None, rows[:1], [{"a": 0, "b": 0}])
                            for pieces in ([piece], [(4, rows, copy.deepcopy(rows)), piece]):
                                told = (room, add) in (("a", 1), ("b", -1))
                                self.ask((-1, [{"a": 0, "b": 0}] * 3, pieces, [flat]), told, street)
                                self.ask((-1, [{"a": 0, "b": 0}] * 3, [flat], pieces), told, street)

    def test_a_door_that_is_not_there_asks_for_nothing(self):
        left, right = Sort(["a"], [("go", "a", 1, "a", 1)]), Sort(["b"], [("go", "b", -1, "b", 1)])
        street = Street(left, 0, [], right)
        none = [(None, [{}], [{}])]
        self.ask((-1, [{"a": 0}, {}], none, none), True, street, (-1, "a"))
        self.ask((-1, [{}, {"b": 0}], none, none), True, street, (0, "b"))
        self.ask((-1, [{}, {}], none, [(1, [{"b": 0}], [{"b": 0}])] + none), False, street, (1, "b"))

    def test_by_chance_with_one_thing_otherwise(self):
        let_by = 0
        for seed in range(120):
            chance = random.Random(seed)
            street = linked_street(seed, most_odd=2, rooms=2) if seed % 2 else chance_street(seed, rooms=3, most_odd=2)
            house = chance.randint(max(-60, street.first() - 2), min(60, street.first() + 3))
            stand = (house, chance.choice(street.sort_at(house).rooms()))
            told = numbers_of(street, stand)
            if houses_of(told[2]) + houses_of(told[3]) > 900:
                continue
            rows = [row for part in (told[1], *(lists for pieces in told[2:] for _, *lists in pieces for lists in lists))
                    for row in part]
            for _ in range(6):
                row = chance.choice(rows)
                if row:
                    name = chance.choice(sorted(row))
                    before = row[name]
                    row[name] += chance.choice([-9, -1, 1, 9])
                    let_by += by_words(street, stand, told)
                    self.ask(told, None, street, stand)
                    row[name] = before
        self.assertGreater(let_by, 30)

    def test_things_of_any_kind(self):
        for thing in things() + [(), [], (0, [], [], []), (0, [], [()], [()]), (0, [{}], [{}], [{}]), list(self.numbers),
                                 self.numbers[:3], (*self.numbers, None), dict(enumerate(self.numbers)), self.street]:
            self.assertIs(are_numbers(self.street, self.stand, thing), False)

    def test_great_numbers_of_rows_are_looked_at_in_time(self):
        piece = (BIG, [{"a": 0}] * 60, [{"a": 0}] * 60)
        first, stretch, left, right = self.zeros(-1, 3, 60, 60)
        self.ask((first, stretch, [piece] * 300 + left, [piece] * 300 + right), True)


class FirstStands(unittest.TestCase):

    def test_one_beyond_is_refused_ahead_of_all_else(self):
        street = alike(ONE)
        for house in (61, -61, 62, FAR, -FAR, HUGE):
            for room in ("a", "nowhere"):
                for one, more in ((numbers_of, ()), *((are_numbers, (thing,)) for thing in things())):
                    with self.assertRaises(TooFar) as caught:
                        one(street, (house, room), *more)
                    self.assertEqual(shape(vars(caught.exception)), shape({"house": house}))

    def test_sixty_is_near_enough(self):
        for house in (60, -60):
            told = numbers_of(alike(ONE), (house, "a"))
            self.assertEqual(number_at(told, house, "a"), 0)
            self.assertIs(are_numbers(alike(ONE), (house, "a"), told), True)

    def test_just_the_kinds_whatever_is_handed_in(self):
        class Number(int):
            pass

        class Word(str):
            pass

        self.assertEqual(shape(numbers_of(alike(ONE), (Number(-20), Word("a")))), shape(numbers_of(alike(ONE), (-20, "a"))))
        thing = (0, [{"a": Number(3)}], [(None, [{"a": Number(4)}], [{"a": Number(0)}])], [(None, [{"a": 4}], [{"a": 0}])])
        for house, told in ((0, 3), (-1, 4), (-2, 4)):
            self.assertEqual(shape(number_at(thing, Number(house), Word("a"))), shape(told))


class Interface(unittest.TestCase):

    def test_each_is_defined_in_its_file(self):
        for one, names in ((number_at, "(numbers, house, room)"), (numbers_of, "(street, stand)"),
                           (are_numbers, "(street, stand, thing)")):
            self.assertEqual(one.__module__, module.__name__)
            self.assertEqual(str(inspect.signature(one)), names)

    def test_by_names(self):
        told = numbers_of(stand=(0, "a"), street=alike(ONE))
        self.assertIs(are_numbers(thing=told, stand=(0, "a"), street=alike(ONE)), True)
        self.assertEqual(number_at(room="a", house=9, numbers=told), 18)

    def test_the_street_is_as_it_was(self):
        street, same, stand = linked_street(7), linked_street(7), (0, "a")
        are_numbers(street, stand, numbers_of(street, stand))
        self.assertEqual((street, stand), (same, (0, "a")))


if __name__ == "__main__":
    unittest.main()
