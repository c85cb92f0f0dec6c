"""Walks (point 40)."""

import copy
import inspect
import random
import unittest

from likehouses import walk as module
from likehouses.changes import told_out, unlike, walled
from likehouses.courses import rooms_at
from likehouses.errors import NoMoment, NoMore, NoName, NoStep, NoWay, TooFar, TooMany
from likehouses.rows import rows_gone
from likehouses.streets import Sort, Street, places_of
from likehouses.telling import way_to
from likehouses.walk import Walk
from likehouses.ways import done, steps
from tests.samples import (NO_NAMES, alike, linked_street, lists_and_dicts, shape, small, spoil, things)

HUGE = 123456789012345678901234567890
FAR = 10 ** 12 - 1
ONE = Sort(["a"], [("in", "a", -1, "a", 1), ("out", "a", 1, "a", 2)])
TWO = Sort(["a", "b"], [("in", "a", -1, "a", 1), ("out", "a", 1, "a", 2), ("up", "a", 0, "b", 5), ("down", "b", 0, "a", 7)])
LEAP = ([("right", ["out"]), ("right", [(0, 3), "in"]), ("left", ["in"])], ["out", (1, 2), "in"])


def road():
    return Street(ONE, 0, [TWO, TWO], ONE)


def long_leap(houses, back=False):
    """A way in rows of so many steps out, or of one more and one back."""
    return ([("right", ["out"])], [(0, houses + 1), "in"] if back else [(0, houses)])


def all_told(walk):
    """What a walk tells of all its moments."""
    moments = range(len(walk.acts()) + 1)
    return [(walk.street_at(moment=k), walk.stand_at(moment=k), walk.steps_at(moment=k), walk.price_at(moment=k)) for k in moments]


def done_again(street, stand, acts):
    """What all moments are, each act done by the functions that it is told by."""
    many = price = 0
    told = [(street, stand, 0, 0)]
    for word, *parts in acts:
        if word == "do":
            stand, more = done(street, stand, *parts)
            many, price = many + 1, price + more
        elif word == "leap":
            stand, further, more = rows_gone(street, stand, *parts)
            many, price = many + further, price + more
        else:
            street = {"wall": walled, "out": told_out}[word](street, *parts)
        told.append((street, stand, many, price))
    return told


def act_of(walk, act):
    word, *parts = act
    {"do": walk.do, "leap": walk.leap, "wall": walk.wall, "out": walk.out}[word](*parts)


class Asked(unittest.TestCase):

    def refuse(self, walk, error, fields, asked_for, *more, **named):
        """Looks whether it is so refused, and the walk is as it was."""
        before = (all_told(walk), walk.acts())
        with self.assertRaises(error) as caught:
            asked_for(*more, **named)
        self.assertIs(type(caught.exception), error)
        self.assertEqual(shape(vars(caught.exception)), shape(fields))
        self.assertEqual((all_told(walk), walk.acts()), before)

    def look(self, walk, street, stand, acts):
        """Looks whether a walk is as it is behind these acts."""
        self.assertEqual(shape(walk.acts()), shape(acts))
        told = done_again(street, stand, acts)
        self.assertEqual(all_told(walk), told)
        for moment, (there, here, many, price) in enumerate(told):
            self.assertEqual(shape((walk.stand_at(moment=moment), walk.steps_at(moment=moment), walk.price_at(moment=moment))),
                             shape((here, many, price)))
            self.assertEqual(walk.street_at(moment=moment), there)
        self.assertEqual((walk.street_at(), walk.stand_at(), walk.steps_at(), walk.price_at()), told[-1])


class Acts(Asked):

    def test_each_act(self):
        acts = [("do", "out"), ("do", "out"), ("leap", LEAP), ("wall", 1, "up"), ("out", "left"), ("out", "right"), ("wall", "left", "in"),
                ("do", "in"), ("wall", -1, "out"), ("leap", ([], []))]
        walk = Walk(road(), (0, "a"))
        self.look(walk, road(), (0, "a"), [])
        for k, act in enumerate(acts):
            self.assertIsNone(act_of(walk, act))
            self.look(walk, road(), (0, "a"), acts[:k + 1])
        self.assertEqual(walk.stand_at(), (5, "a"))
        self.assertEqual(walk.street_at(), Street(Sort(["a"], [("out", "a", 1, "a", 2)]), -1,
                                                  [Sort(["a"], [("in", "a", -1, "a", 1)]), TWO, walled(road(), 1, "up").odd()[1], ONE], ONE))
        self.assertEqual((walk.steps_at(moment=2), walk.price_at(moment=2)), (2, 4))
        # The leap: out, twice three out and one in, one in.
        self.assertEqual((walk.steps_at(moment=3), walk.price_at(moment=3)), (12, 4 + 2 + 2 * 7 + 1))

    def test_by_chance(self):
        for seed in range(60):
            chance = random.Random(seed)
            street = linked_street(seed, most_odd=6)
            house = max(-60, min(60, street.first() + chance.randint(-2, 9)))
            stand = (house, chance.choice(street.sort_at(house).rooms()))
            walk, acts, taken = Walk(street, stand), [], []
            for _ in range(25):
                now, kind = walk.street_at(), chance.random()
                if kind < 0.35:
                    there = steps(now, walk.stand_at())
                    act = ("do", chance.choice(there)) if there else ("leap", ([], []))
                elif kind < 0.5:
                    place = chance.choice(places_of(now))
                    doors = now.sort_at({"left": -99, "right": 99}.get(place, place)).doors()
                    act = ("wall", place, chance.choice(doors)[0]) if doors else ("leap", ([], []))
                elif kind < 0.6:
                    act = ("out", chance.choice(["left", "right"]))
                elif kind < 0.7:
                    other = (chance.randint(-90, 90), "a")
                    way = way_to(now, walk.stand_at(), other) if abs(walk.stand_at()[0]) <= 60 and "a" in now.sort_at(other[0]).rooms() else None
                    act = ("leap", ([], []) if way is None else way[1])
                elif kind < 0.85:
                    if acts:
                        taken.append(acts.pop())
                        self.assertEqual(shape(walk.back()), shape(taken[-1]))
                    else:
                        self.refuse(walk, NoMore, {"word": "back"}, walk.back)
                    continue
                else:
                    if taken:
                        acts.append(taken.pop())
                        self.assertEqual(shape(walk.on()), shape(acts[-1]))
                    else:
                        self.refuse(walk, NoMore, {"word": "on"}, walk.on)
                    continue
                try:
                    act_of(walk, act)
                except (TooMany, TooFar):
                    continue
                acts.append(act)
                taken = []
            self.look(walk, street, stand, acts)

    def test_do_refused(self):
        walk = Walk(road(), (0, "a"))
        for step, why in (("nowhere", "door"), ("down", "room"), *((thing, "form") for thing in NO_NAMES)):
            self.refuse(walk, NoStep, {"why": why}, walk.do, step)
        edge = Walk(Street(small(), 0, [ONE], small()), (0, "a"))
        self.refuse(edge, NoStep, {"why": "goal"}, edge.do, "out")

    def test_leap_refused(self):
        walk = Walk(road(), (0, "a"))
        walk.do("up")
        for way, at, why in (
                (([], ["out"]), 0, "room"), (([], ["down", "nowhere"]), 1, "door"), (([("right", ["out"])], ["down", (0, 1)]), 1, "border"),
                (([("right", ["up"])], ["down", "out", "out", (0, 1)]), 3, "row"), (([("left", ["out"])], ["down", "in", (0, 1)]), 2, "border"),
                (([("right", ["out"])], [(0, 1)]), 0, "row")):
            self.refuse(walk, NoWay, {"at": at, "why": why}, walk.leap, way)

    def test_wall_refused(self):
        walk = Walk(road(), (0, "a"))
        for place in [*things(), "Left", 2, -1, True, False, "0"]:
            if not (type(place) is int and place in (0, 1)):
                self.refuse(walk, NoName, {"asked": place}, walk.wall, place, "nowhere")
        for name in [*things(), "nowhere", "up"]:
            self.refuse(walk, NoName, {"asked": name}, walk.wall, "left", name)
        walk.wall(0, "up")
        self.refuse(walk, NoName, {"asked": "up"}, walk.wall, 0, "up")
        self.refuse(walk, NoStep, {"why": "door"}, walk.do, "up")

    def test_out_refused(self):
        walk = Walk(Street(ONE, -50, [ONE] * 7, ONE), (0, "a"))
        self.refuse(walk, TooFar, {"house": -51}, walk.out, "left")
        walk.out("right")
        for side in ("left", "right"):
            self.refuse(walk, TooMany, {"most": 8}, walk.out, side)
        self.assertEqual(walk.acts(), [("out", "right")])

    def test_from_then_on_the_street_is_changed(self):
        walk = Walk(road(), (0, "a"))
        self.assertEqual(walk.can((9, "a")), True)
        self.assertEqual(walk.cheapest((9, "a"))[0], 18)
        walk.wall(1, "out")
        self.assertEqual(walk.can((9, "a")), False)
        self.assertIsNone(walk.cheapest((9, "a")))
        walk.do("out")
        self.refuse(walk, NoStep, {"why": "door"}, walk.do, "out")
        walk.back(), walk.back()
        walk.do("out"), walk.do("out")
        self.assertEqual(walk.stand_at(), (2, "a"))
        walk.out("right"), walk.wall(2, "in")
        self.refuse(walk, NoStep, {"why": "door"}, walk.do, "in")
        self.assertEqual(walk.can((1, "a")), False)
        walk.do("out"), walk.do("in")
        self.assertEqual(walk.stand_at(), (2, "a"))


class FarOff(Asked):

    def test_beyond_twelve_figures(self):
        walk = Walk(alike(ONE), (60, "a"))
        walk.leap(long_leap(FAR - 60))
        self.assertEqual(walk.stand_at(), (FAR, "a"))
        self.refuse(walk, TooFar, {"house": FAR + 1}, walk.do, "out")
        self.refuse(walk, TooFar, {"house": FAR + 1}, walk.leap, ([], ["out"]))
        self.refuse(walk, TooFar, {"house": FAR + 2}, walk.leap, ([], ["out", "out"]))
        self.refuse(walk, TooFar, {"house": FAR + 10 ** 60}, walk.leap, long_leap(10 ** 60))
        walk.leap(([], ["out", "out", "in", "in"]))
        self.assertEqual(walk.stand_at(), (FAR, "a"))
        walk.do("in")
        walk.do("out")
        self.refuse(walk, TooFar, {"house": FAR + 1}, walk.do, "out")

    def test_on_the_left(self):
        walk = Walk(alike(ONE), (-60, "a"))
        walk.leap(([("left", ["in"])], [(0, FAR - 60)]))
        self.assertEqual(walk.stand_at(), (-FAR, "a"))
        self.refuse(walk, TooFar, {"house": -FAR - 1}, walk.do, "in")
        self.refuse(walk, TooFar, {"house": -FAR - 2}, walk.leap, ([], ["in", "in"]))
        walk.leap(([], ["in", "out"]))

    def test_refusals_of_the_step_go_ahead(self):
        sort = Sort(["a", "b"], [("out", "a", 1, "a", 1), ("up", "a", 0, "b", 1), ("go", "b", 1, "c", 1)])
        walk = Walk(alike(sort), (0, "a"))
        walk.leap(long_leap(FAR))
        self.refuse(walk, TooFar, {"house": FAR + 1}, walk.do, "out")
        self.refuse(walk, NoStep, {"why": "room"}, walk.do, "go")
        self.refuse(walk, NoStep, {"why": "door"}, walk.do, "oute")
        self.refuse(walk, NoWay, {"at": 1, "why": "door"}, walk.leap, ([], ["out", "oute"]))
        walk.do("up")
        self.refuse(walk, NoStep, {"why": "goal"}, walk.do, "go")

    def test_prices_and_steps_of_a_far_leap(self):
        walk = Walk(alike(ONE), (0, "a"))
        walk.leap(([("right", ["out", "in"]), ("right", [(0, 10 ** 60)])], ["out", (1, 10 ** 60), "in"]))
        self.assertEqual((walk.stand_at(), walk.steps_at(), walk.price_at()), ((0, "a"), 2 * 10 ** 120 + 2, 3 * 10 ** 120 + 3))

    def test_walls_far_off(self):
        walk = Walk(alike(ONE), (0, "a"))
        walk.leap(long_leap(FAR))
        walk.wall("right", "in")
        self.refuse(walk, NoStep, {"why": "door"}, walk.do, "in")


class BackAndOn(Asked):

    def test_all_taken_back_and_done_again(self):
        acts = [("do", "out"), ("wall", 1, "up"), ("leap", LEAP), ("out", "right"), ("do", "in")]
        walk = Walk(road(), (0, "a"))
        for act in acts:
            act_of(walk, act)
        for _ in range(3):
            for k in reversed(range(5)):
                self.assertEqual(shape(walk.back()), shape(acts[k]))
                self.look(walk, road(), (0, "a"), acts[:k])
            self.refuse(walk, NoMore, {"word": "back"}, walk.back)
            for k in range(5):
                self.assertEqual(shape(walk.on()), shape(acts[k]))
                self.look(walk, road(), (0, "a"), acts[:k + 1])
            self.refuse(walk, NoMore, {"word": "on"}, walk.on)

    def test_nothing_done(self):
        walk = Walk(road(), (0, "a"))
        self.refuse(walk, NoMore, {"word": "back"}, walk.back)
        self.refuse(walk, NoMore, {"word": "on"}, walk.on)

    def test_an_act_done_lets_go_what_was_taken_back(self):
        for act in (("do", "out"), ("leap", ([], [])), ("wall", 0, "up"), ("out", "left")):
            # The same act, too.
            for first in (("do", "out"), act):
                walk = Walk(road(), (0, "a"))
                act_of(walk, first), act_of(walk, ("do", "in"))
                walk.back(), walk.back()
                act_of(walk, act)
                self.refuse(walk, NoMore, {"word": "on"}, walk.on)
                self.look(walk, road(), (0, "a"), [act])
                self.assertEqual(shape(walk.back()), shape(act))
                self.refuse(walk, NoMore, {"word": "back"}, walk.back)
                self.assertEqual(shape(walk.on()), shape(act))

    def test_one_that_is_refused_does_not(self):
        walk = Walk(Street(ONE, -50, [ONE] * 8, ONE), (0, "a"))
        walk.do("out"), walk.do("in")
        walk.back(), walk.back()
        for asked_for, more in ((walk.do, ("nowhere",)), (walk.leap, (([], ["nowhere"]),)), (walk.wall, ("left", "nowhere")),
                                (walk.wall, (None, "in")), (walk.out, ("left",)), (walk.leap, (long_leap(10 ** 13),)), (walk.back, ())):
            with self.assertRaises((NoStep, NoWay, NoName, TooMany, TooFar, NoMore)):
                asked_for(*more)
        with self.assertRaises(NoMoment):
            walk.stand_at(moment=1)
        self.assertEqual(walk.on(), ("do", "out"))
        self.assertEqual(walk.on(), ("do", "in"))

    def test_asking_does_not(self):
        walk = Walk(road(), (0, "a"))
        walk.do("out")
        walk.back()
        walk.street_at(), walk.acts(), walk.can((0, "a")), walk.cheapest((5, "a")), walk.stand_at(moment=0), self.assertNotEqual(walk, 1)
        self.assertEqual(walk.on(), ("do", "out"))


class Moments(Asked):

    def test_what_is_no_moment(self):
        walk = Walk(road(), (0, "a"))
        walk.do("out"), walk.do("in"), walk.do("up")
        walk.back()
        for asked_for in (walk.street_at, walk.stand_at, walk.steps_at, walk.price_at):
            for moment in [*things(), 3, 4, -1, -3, HUGE, "0", "now", [0], (0,), True, False]:
                if moment is not None and not (type(moment) is int and 0 <= moment <= 2):
                    self.refuse(walk, NoMoment, {"asked": moment}, asked_for, moment=moment)

    def test_none_is_now(self):
        walk = Walk(road(), (0, "a"))
        for act in (("do", "out"), ("wall", 0, "up"), ("out", "left")):
            act_of(walk, act)
            last = len(walk.acts())
            for asked_for in (walk.street_at, walk.stand_at, walk.steps_at, walk.price_at):
                self.assertEqual(asked_for(), asked_for(moment=None))
                self.assertEqual(asked_for(), asked_for(moment=last))

    def test_moments_by_name_alone(self):
        walk = Walk(road(), (0, "a"))
        for asked_for in (walk.street_at, walk.stand_at, walk.steps_at, walk.price_at):
            with self.assertRaises(TypeError):
                asked_for(0)

    def test_just_the_kinds(self):
        walk = Walk(road(), (0, "a"))
        walk.do("out"), walk.leap(LEAP)
        for moment in (0, 1, 2, None):
            self.assertEqual([type(one) for one in (walk.street_at(moment=moment), walk.stand_at(moment=moment), walk.steps_at(moment=moment),
                                                    walk.price_at(moment=moment))], [Street, tuple, int, int])


class FromNowOn(Asked):

    def test_can_and_cheapest(self):
        for seed in range(25):
            chance, street = random.Random(seed), linked_street(seed, most_odd=3)
            house = max(-60, min(60, street.first() + chance.randint(-2, 5)))
            walk = Walk(street, (house, chance.choice(street.sort_at(house).rooms())))
            for _ in range(4):
                there = steps(walk.street_at(), walk.stand_at())
                if there:
                    walk.do(chance.choice(there))
                place = chance.choice(places_of(walk.street_at()))
                doors = walk.street_at().sort_at({"left": -99, "right": 99}.get(place, place)).doors()
                if doors:
                    walk.wall(place, chance.choice(doors)[0])
                if abs(walk.stand_at()[0]) <= 60:
                    for far in (walk.stand_at()[0] + chance.randint(-9, 9), FAR, -FAR):
                        for room in walk.street_at().sort_at(far).rooms():
                            told = walk.can((far, room))
                            self.assertIs(told, room in rooms_at(walk.street_at(), walk.stand_at(), far))
                            way = walk.cheapest((far, room))
                            self.assertEqual(shape(way), shape(way_to(walk.street_at(), walk.stand_at(), (far, room))))
                            self.assertIs(way is not None, told)

    def test_at_a_present_stand_beyond(self):
        for first, step, out in ((60, "out", 1), (-60, "in", -1)):
            walk = Walk(alike(ONE), (first, "a"))
            self.assertIs(walk.can((0, "a")), True)
            walk.do(step)
            for other in ((0, "a"), (first + out, "a"), (FAR, "a"), None):
                for asked_for in (walk.can, walk.cheapest):
                    self.refuse(walk, TooFar, {"house": first + out}, asked_for, other)
            walk.do("in" if out > 0 else "out")
            self.assertIs(walk.can((0, "a")), True)
            walk.back()
            with self.assertRaises(TooFar):
                walk.can((0, "a"))
            walk.back()
            self.assertEqual(walk.cheapest((first, "a")), (0, ([], [])))

    def test_far_beyond(self):
        walk = Walk(alike(ONE), (0, "a"))
        walk.leap(long_leap(FAR))
        self.refuse(walk, TooFar, {"house": FAR}, walk.can, (FAR, "a"))
        self.refuse(walk, TooFar, {"house": FAR}, walk.cheapest, (0, "a"))


class Equal(unittest.TestCase):

    def walked(self, acts, street=None, stand=(0, "a")):
        walk = Walk(road() if street is None else street, stand)
        for act in acts:
            act_of(walk, act)
        return walk

    def test_another_road_to_the_same_acts(self):
        acts = [("do", "out"), ("wall", 0, "up"), ("leap", LEAP)]
        one, other = self.walked(acts), self.walked([acts[0], ("out", "left"), ("do", "in")])
        self.assertFalse(one == other)
        other.back(), other.back()
        act_of(other, acts[1]), act_of(other, ("out", "right"))
        other.back()
        act_of(other, acts[2])
        self.assertTrue(one == other)
        self.assertFalse(one != other)
        one.back()
        self.assertFalse(one == other)
        one.on()
        self.assertTrue(one == other)

    def test_what_was_taken_back_does_not_count(self):
        one, other = self.walked([]), self.walked([("do", "out")])
        self.assertFalse(one == other)
        other.back()
        self.assertTrue(one == other)

    def test_unlike_ones(self):
        walks = [self.walked(acts, street, stand) for acts, street, stand in (
            ([], road(), (0, "a")), ([], road(), (1, "a")), ([], road(), (0, "b")), ([], alike(ONE), (0, "a")),
            ([], told_out(road(), "left"), (0, "a")), ([("out", "left")], road(), (0, "a")), ([("out", "right")], road(), (0, "a")),
            ([("do", "out")], road(), (0, "a")), ([("do", "in")], road(), (0, "a")), ([("leap", ([], ["out"]))], road(), (0, "a")),
            ([("leap", ([], []))], road(), (0, "a")), ([("leap", ([("right", [])], []))], road(), (0, "a")),
            ([("leap", ([("left", [])], []))], road(), (0, "a")), ([("wall", 0, "in")], road(), (0, "a")), ([("wall", 1, "in")], road(), (0, "a")),
            ([("wall", 0, "out")], road(), (0, "a")), ([("do", "out"), ("do", "in")], road(), (0, "a")),
            ([("do", "in"), ("do", "out")], road(), (0, "a")))]
        for k, one in enumerate(walks):
            for m, other in enumerate(walks):
                self.assertIs(one == other, k == m)

    def test_to_a_thing_of_another_kind(self):
        walk = self.walked([])
        for thing in [*things(), road(), ONE]:
            self.assertFalse(walk == thing)
            self.assertFalse(thing == walk)
            self.assertTrue(walk != thing)

    def test_streets_made_otherwise(self):
        sort = Sort(("a",), tuple(ONE.doors()[::-1]))
        self.assertTrue(self.walked([], alike(ONE)) == self.walked([], Street(sort, 0, (), sort)))


class Own(unittest.TestCase):

    def test_what_is_told_is_the_askers_own(self):
        walk = Walk(road(), (0, "a"))
        walk.do("out"), walk.leap(LEAP), walk.wall(0, "up"), walk.out("left")
        before = (copy.deepcopy(walk.acts()), all_told(walk))
        for _ in range(2):
            told = walk.acts()
            self.assertEqual(len({id(part) for part in lists_and_dicts(told)}), len(lists_and_dicts(told)))
            spoil(told)
            walk.street_at().odd().clear()
            walk.street_at().left().doors().clear()
            self.assertIsNot(walk.street_at(), walk.street_at())
            self.assertIsNot(walk.street_at(moment=0), walk.street_at(moment=1))
            self.assertEqual((shape(walk.acts()), all_told(walk)), (shape(before[0]), before[1]))
        for _ in range(2):
            acts = [walk.back() for _ in range(4)]
            spoil(acts)
            acts = [walk.on() for _ in range(4)]
            spoil(acts)
            self.assertEqual((shape(walk.acts()), all_told(walk)), (shape(before[0]), before[1]))

    def test_what_is_handed_in_is_copied_and_as_it_was(self):
        way = copy.deepcopy(LEAP)
        street, stand = road(), (2, "a")
        walk = Walk(street, stand)
        walk.leap(way)
        self.assertEqual(shape(way), shape(LEAP))
        spoil(way)
        self.assertEqual(shape(walk.acts()), shape([("leap", LEAP)]))
        walk.wall(0, "up")
        self.assertEqual(street, road())
        self.assertIsNot(walk.street_at(moment=0), street)
        walk.back(), walk.back(), walk.on()
        self.assertEqual(shape(walk.acts()), shape([("leap", LEAP)]))

    def test_just_the_kinds_whatever_is_handed_in(self):
        class Number(int):
            pass

        class Word(str):
            pass

        walk = Walk(road(), (Number(0), Word("a")))
        walk.do(Word("out")), walk.wall(Number(1), Word("up")), walk.wall(Word("left"), Word("in")), walk.out(Word("left"))
        walk.leap(([(Word("right"), [Word("out")]), ("right", [(Number(0), Number(2))])], [Word("out"), (Number(1), Number(1))]))
        self.assertEqual(shape(walk.acts()), shape([("do", "out"), ("wall", 1, "up"), ("wall", "left", "in"), ("out", "left"),
                                                    ("leap", ([("right", ["out"]), ("right", [(0, 2)])], ["out", (1, 1)]))]))
        self.assertEqual(shape(walk.stand_at()), shape((4, "a")))
        self.assertEqual(shape(walk.stand_at(moment=0)), shape((0, "a")))


class Made(unittest.TestCase):

    def test_a_first_stand_beyond(self):
        for house in (61, -61, FAR, -FAR, HUGE):
            for room in ("a", "nowhere"):
                with self.assertRaises(TooFar) as caught:
                    Walk(road(), (house, room))
                self.assertEqual(shape(vars(caught.exception)), shape({"house": house}))
        for house in (60, -60):
            self.assertEqual(Walk(road(), (house, "a")).stand_at(), (house, "a"))

    def test_interface(self):
        self.assertEqual(Walk.__module__, module.__name__)
        for name, told in (("__init__", "(self, street, stand)"), ("__eq__", "(self, other)"), ("do", "(self, step)"), ("leap", "(self, way)"),
                           ("wall", "(self, place, name)"), ("out", "(self, side)"), ("back", "(self)"), ("on", "(self)"),
                           ("street_at", "(self, *, moment=None)"), ("stand_at", "(self, *, moment=None)"),
                           ("steps_at", "(self, *, moment=None)"), ("price_at", "(self, *, moment=None)"), ("acts", "(self)"),
                           ("can", "(self, other)"), ("cheapest", "(self, other)")):
            self.assertEqual(str(inspect.signature(vars(Walk)[name])), told)

    def test_by_names(self):
        walk = Walk(stand=(0, "a"), street=road())
        walk.do(step="out"), walk.leap(way=([], ["in"])), walk.wall(name="up", place=0), walk.out(side="left")
        self.assertEqual(walk.acts(), [("do", "out"), ("leap", ([], ["in"])), ("wall", 0, "up"), ("out", "left")])
        self.assertIs(walk.can(other=(0, "b")), False)
        self.assertIsNone(walk.cheapest(other=(0, "b")))

    def test_out_is_unlike_at_no_house(self):
        walk = Walk(road(), (0, "a"))
        walk.out("left"), walk.out("right"), walk.out("right")
        self.assertIsNone(unlike(walk.street_at(), road()))
        self.assertEqual(len(walk.street_at()), 5)


if __name__ == "__main__":
    unittest.main()
