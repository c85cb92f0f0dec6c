"""Stands (point 13)."""

import copy
import inspect
import unittest

from likehouses import stands
from likehouses.stands import is_stand
from likehouses.streets import Sort, Street
from tests.samples import chance_street, houses_about, large, middle, numbered, odd_street, shape, small, things


class Stands(unittest.TestCase):

    def ask(self, street, thing, told):
        before = copy.deepcopy(thing)
        self.assertIs(is_stand(street, thing), told, (street.first(), thing))
        self.assertEqual(shape(thing), shape(before))

    def test_each_room_of_each_house(self):
        for street in (odd_street(-3, 4), odd_street(2, 0), Street(small(), 7, [large()], middle())):
            sorts = [street.left(), street.right(), *street.odd()]
            names = sorted({room for sort in sorts for room in sort.rooms()} | {"other", "left"})
            for house in houses_about(street):
                for room in names:
                    self.ask(street, (house, room), room in street.sort_at(house).rooms())

    def test_a_room_of_another_sort(self):
        street = Street(numbered(0), 0, [numbered(1)], numbered(2))
        for house, own in ((-9, "rooma"), (-1, "rooma"), (0, "roomb"), (1, "roomc"), (9, "roomc")):
            for room in ("rooma", "roomb", "roomc", "roomd"):
                self.ask(street, (house, room), room == own)

    def test_houses_of_twelve_figures_and_of_more(self):
        street = odd_street(0, 3)
        for house, told in ((10 ** 12 - 2, True), (10 ** 12 - 1, True), (10 ** 12, False), (10 ** 12 + 1, False),
                            (10 ** 30, False), (10 ** 5000, False)):
            self.ask(street, (house, "yard"), told)
            self.ask(street, (-house, "cave"), told)
            self.ask(street, (house, "rooma"), False)
            self.ask(street, (-house, "yard"), False)

    def test_lists_and_tuples_of_another_length(self):
        street = odd_street(0, 1)
        self.ask(street, (9, "cave"), True)
        for thing in ([9, "cave"], (9,), ("cave",), (9, "cave", 9), (9, "cave", None), ((9, "cave"),), [(9, "cave")],
                      ("cave", 9), (), [], {9: "cave"}, {"house": 9, "room": "cave"}):
            self.ask(street, thing, False)

    def test_a_truth_for_the_house(self):
        room = Sort(["cave"], [])
        for first in (-1, 0, 1, 2):
            street = Street(room, first, [room], room)
            self.ask(street, (0, "cave"), True)
            self.ask(street, (1, "cave"), True)
            for truth in (True, False):
                self.ask(street, (truth, "cave"), False)

    def test_parts_of_any_kind(self):
        street = odd_street(0, 1)
        for thing in things():
            whole = isinstance(thing, int) and not isinstance(thing, bool) and 0 < thing < 10 ** 12
            self.ask(street, (thing, "cave"), whole or thing == -1)
            self.ask(street, (5, thing), False)
            self.ask(street, (thing, thing), False)

    def test_things_of_any_kind(self):
        for thing in things() + ["cave", 5, [], (5, ["cave"]), (5, ("cave",)), ("5", "cave"), ([5], "cave")]:
            self.ask(odd_street(0, 1), thing, thing == (3, "cave"))

    def test_streets_by_chance(self):
        for seed in range(20):
            street = chance_street(seed)
            for house in houses_about(street):
                for room in "abcdefghijklmnopqrstuvwxyz":
                    self.ask(street, (house, room), room in street.sort_at(house).rooms())


class Interface(unittest.TestCase):

    def test_it_is_defined_in_its_file(self):
        self.assertEqual(is_stand.__module__, stands.__name__)
        self.assertEqual(str(inspect.signature(is_stand)), "(street, thing)")
        self.assertIs(is_stand(thing=(1, "cave"), street=odd_street(0, 1)), True)


if __name__ == "__main__":
    unittest.main()
