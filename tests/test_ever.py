"""Whether one can go on for ever (points 32, 33 and 4)."""

import copy
import inspect
import random
import re
import unittest

from likehouses import ever
from likehouses.errors import Shunned, TooFar
from likehouses.ever import for_ever, is_ever
from likehouses.streets import Sort, Street, places_of
from tests.samples import (Doors, alike, any_things, changed, chance_street, linked_street, lists_and_dicts, other_forms,
                           ring_sort, shape, spoil, things)

HUGE = 123456789012345678901234567890
FAR = 10 ** 12 - 1
SHUT = Sort(["a", "b"], [])
LINE = ring_sort("bcdef-")


class Open:
    """The doors that are there and lead into no shunned room, by the words of point 32."""

    def __init__(self, street, shun):
        self.street, self.shun, self.doors = street, shun or {}, Doors(street)

    def place(self, house):
        if house < self.street.first():
            return "left"
        return house if house < self.street.first() + len(self.street) else "right"

    def shuns(self, house, room):
        return room in self.shun.get(self.place(house), [])

    def there(self, house, room):
        return {name: goal for name, (goal, _) in self.doors.there(house, room) if not self.shuns(*goal)}

    def gone(self, stand, way):
        """All stands of a way, None where it can't be gone."""
        if type(way) is not tuple or not all(type(step) is str and re.fullmatch("[a-z]{1,8}", step) for step in way):
            return None
        stands = [stand]
        for step in way:
            there = self.there(*stands[-1])
            if step not in there:
                return None
            stands.append(there[step])
        return stands


def goes_on(street, stand, shun=None):
    """Whether some way goes on for ever: one as long as there are stands near by, and far out as many as there are rooms."""
    doors = Open(street, shun)
    low = min(street.first() - 1, stand[0]) - 9
    high = max(street.first() + len(street), stand[0]) + 9
    front, steps = {stand}, 0
    while front and steps <= (high - low + 1) * 6:
        front = {goal for here in front for goal in doors.there(*here).values()}
        if any(not low <= house <= high for house, _ in front):
            return True
        steps += 1
    return bool(front)


def by_words(street, stand, thing, shun=None):
    """Whether a thing is such an answer and holds, by the words of point 32."""
    doors = Open(street, shun)
    if type(thing) is not tuple or not thing or type(thing[0]) is not str:
        return False
    if thing[0] == "never" and len(thing) == 2:
        if type(thing[1]) is not list:
            return False
        numbers = {}
        for pair in thing[1]:
            if type(pair) is not tuple or len(pair) != 2 or type(pair[1]) is not int or pair[1] < 0:
                return False
            if type(pair[0]) is not tuple or len(pair[0]) != 2 or type(pair[0][0]) is not int or abs(pair[0][0]) > FAR:
                return False
            if type(pair[0][1]) is not str or pair[0][1] not in doors.doors.rooms(pair[0][0]) or pair[0] in numbers:
                return False
            numbers[pair[0]] = pair[1]
        return stand in numbers and all(numbers.get(goal, number) < number for here, number in numbers.items()
                                        for goal in doors.there(*here).values())
    if thing[0] != "ever" or len(thing) != 3:
        return False
    begin = doors.gone(stand, thing[1])
    stands = begin and doors.gone(begin[-1], thing[2])
    if not stands or len(stands) < 2:
        return False
    (house, room), (end, last) = stands[0], stands[-1]
    if (end, last) == (house, room):
        return True
    side = doors.place(house)
    if last != room or side not in ("left", "right") or (end < house) != (side == "left"):
        return False
    return all(doors.place(near) == side and (near <= house if side == "left" else near >= house) for near, _ in stands)


def asked():
    """Streets with first stands and shunned rooms."""
    told = []
    for seed in range(260):
        chance = random.Random(seed)
        kind = seed % 4
        street = (linked_street(seed) if kind == 0 else chance_street(seed, rooms=3) if kind == 1
                  else chance_street(seed, rooms=5, most_doors=6) if kind == 2 else linked_street(seed, most_odd=8, rooms=3))
        near = chance.randint(street.first() - 3, street.first() + len(street) + 2)
        house = chance.choice([max(-60, min(60, near)), chance.randint(-60, 60)])
        stand = (house, chance.choice(street.sort_at(house).rooms()))
        shun = {}
        for place in places_of(street):
            rooms = street.sort_at({"left": -99, "right": 99}.get(place, place)).rooms()
            if chance.random() < 0.6:
                shun[place] = [chance.choice(rooms) for _ in range(chance.randint(0, 3))]
        if Open(street, shun).shuns(*stand):
            shun[Open(street, shun).place(house)] = []
        told += [(street, stand, None), (street, stand, shun)]
    return told


class Asked(unittest.TestCase):

    def ask(self, street, stand, thing, told=None, shun=None):
        before = copy.deepcopy((thing, shun))
        told = by_words(street, stand, thing, shun) if told is None else told
        self.assertIs(is_ever(street, stand, thing, shun=shun), told)
        self.assertEqual(shape((thing, shun)), shape(before))

    def tell(self, street, stand, word, shun=None):
        """What is told, if it has this word and holds."""
        before = copy.deepcopy(shun)
        told = for_ever(street, stand, shun=shun)
        self.assertEqual(shape(shun), shape(before))
        self.assertEqual(told[0], word)
        self.assertTrue(by_words(street, stand, told, shun), told)
        self.ask(street, stand, told, True, shun)
        return told


class ForEver(Asked):

    def test_against_a_search(self):
        many = {"ever": 0, "never": 0}
        for street, stand, shun in asked():
            word = "ever" if goes_on(street, stand, shun) else "never"
            many[word] += 1
            self.tell(street, stand, word, shun)
        self.assertGreater(min(many.values()), 100)

    def test_its_form(self):
        for street, stand, shun in asked()[::3]:
            told = for_ever(street, stand, shun=shun)
            self.assertIs(type(told), tuple)
            if told[0] == "ever":
                self.assertEqual([type(part) for part in told], [str, tuple, tuple])
                self.assertTrue(all(type(step) is str for way in told[1:] for step in way))
            else:
                self.assertEqual([type(part) for part in told], [str, list])
                self.assertTrue(all(shape(pair) == shape((tuple(pair[0]), int(pair[1]))) for pair in told[1]))

    def test_among_the_odd_houses(self):
        go, back = Sort(["a"], [("go", "a", 1, "a", 1)]), Sort(["a"], [("back", "a", -1, "a", 1)])
        street = Street(back, 0, [go, back], SHUT)
        self.tell(street, (0, "a"), "ever")
        self.tell(street, (1, "a"), "ever")
        self.tell(Street(SHUT, 0, [back, go], SHUT), (0, "a"), "never")
        stay = Sort(["a"], [("stay", "a", 0, "a", 1)])
        self.assertEqual(self.tell(Street(SHUT, 3, [stay], SHUT), (3, "a"), "ever")[2].count("stay") > 0, True)
        circle = Sort(list("ab"), [("x", "a", 0, "b", 1), ("y", "b", 0, "a", 1)])
        self.tell(Street(SHUT, -3, [SHUT, circle, SHUT], SHUT), (-2, "b"), "ever")

    def test_over_the_odd_houses_and_both_sides(self):
        # One circle alone, from side to side over all odd houses.
        odd = Sort(["a", "b"], [("go", "a", 1, "a", 1), ("back", "b", -1, "b", 1)])
        left, right = Sort(["a", "b"], [("turn", "b", 0, "a", 1), ("go", "a", 1, "a", 1)]), \
            Sort(["a", "b"], [("turn", "a", 0, "b", 1), ("back", "b", -1, "b", 1)])
        street = Street(left, -4, [odd] * 8, right)
        for stand in ((-5, "a"), (-5, "b"), (0, "a"), (4, "b"), (-60, "a"), (60, "b")):
            told = self.tell(street, stand, "ever")
            self.assertGreaterEqual(len(told[2]), 20)
        self.tell(street, (0, "a"), "never", {3: ["a"]})
        self.tell(street, (0, "a"), "never", {-4: ["b"]})
        self.tell(street, (0, "a"), "ever", {-5: ["a", "b"], 4: ["a"]})
        self.tell(street, (0, "a"), "never", {"left": ["a"]})
        self.tell(street, (0, "a"), "never", {"right": ["b", "b"]})

    def test_out_on_a_side(self):
        for out, side in ((-1, "left"), (1, "right")):
            for goals in ("a", "ba", "bca", "bcdefa"):
                sort = ring_sort(goals, out=out)
                for street in (alike(sort), Street(sort, 0, [SHUT, SHUT], sort)):
                    for house in (-60, 7 * out, -60 * out, 60):
                        goes = len(street) == 0 or house * out > 0
                        self.tell(street, (house, "a"), "ever" if goes else "never")

    def test_only_far_out(self):
        # Five houses out by as many rooms, and only there the same again and again.
        for out in (-1, 1):
            ring = ring_sort("bcdeff", out=out)
            street = Street(ring, 2, [SHUT, ring], ring)
            for house in (1, 3, 4, -60, 60):
                if house not in (1, 2) or out == -1:
                    told = self.tell(street, (house, "a"), "ever" if (house - 2) * out > 0 else "never")
                    if told[0] == "ever":
                        self.assertGreaterEqual(len(told[1]), 5)
            line = ring_sort("bcdef-", out=out)
            self.assertEqual(len(self.tell(alike(line), (0, "a"), "never")[1]), 6)

    def test_out_by_going_in_again_and_again(self):
        # Two houses out, one in: no round stays in one house.
        for out in (-1, 1):
            sort = Sort(list("abc"), [("x", "a", out, "b", 1), ("y", "b", out, "c", 1), ("z", "c", -out, "a", 1)])
            for house in (-60, -1, 0, 1, 60):
                self.tell(alike(sort), (house, "a"), "ever")
            street = Street(SHUT, 0, [SHUT], sort)
            if out == 1:
                told = self.tell(street, (1, "a"), "ever")
                # What begins with z goes nearer inward than it begins.
                self.ask(street, (1, "a"), ("ever", ("x", "y"), ("z", "x", "y")), False)
                self.ask(street, (1, "a"), ("ever", (), ("x", "y", "z")), True)
                self.ask(street, (1, "a"), ("ever", ("x",), ("y", "z", "x")), True)
                self.assertNotEqual(told[2][0], "z")

    def test_every_way_ends(self):
        for street, stand, most in ((alike(SHUT), (0, "a"), 0), (alike(LINE), (0, "a"), 5), (alike(LINE), (60, "f"), 0),
                                    (alike(ring_sort("-a")), (0, "b"), 1)):
            told = self.tell(street, stand, "never")
            numbers = dict(told[1])
            self.assertGreaterEqual(numbers[stand], most)
        # In from sixty to the odd house, where it ends.
        in_ = Sort(["a"], [("in", "a", -1, "a", 1)])
        street = Street(SHUT, -50, [SHUT], in_)
        self.assertGreaterEqual(dict(self.tell(street, (60, "a"), "never")[1])[60, "a"], 110)

    def test_shunned_rooms(self):
        ring = ring_sort("bca")
        street = Street(ring, 0, [ring, ring], ring)
        self.tell(street, (0, "a"), "ever")
        for shun, word in (({}, "ever"), (None, "ever"), ({"right": ["a"]}, "never"), ({"right": ["b"]}, "never"),
                           ({"right": []}, "ever"), ({"left": ["a", "b", "c"]}, "ever"), ({0: ["b", "c"]}, "ever"), ({1: ["b"]}, "never"),
                           ({1: ["b", "b"]}, "never"), ({1: ["a", "c"]}, "ever"), ({0: ["b"], "left": ["a"], "right": ["c", "a"]}, "never"),
                           ({2: ["a", "b", "c"], 9: ["a", "b", "c"], -1: ["a", "b", "c"]}, "ever")):
            self.tell(street, (0, "a"), word, shun)

    def test_a_shunned_room_is_left_out_only_at_its_place(self):
        stay = Sort(["a", "b"], [("x", "a", 0, "b", 1), ("y", "b", 0, "a", 1)])
        street = Street(stay, 5, [stay, stay], stay)
        for place, house in (("left", 4), (5, 5), (6, 6), ("right", 7), ("left", -60), ("right", 60)):
            for other, at in (("left", 4), (5, 5), (6, 6), ("right", 7)):
                self.tell(street, (house, "a"), "never" if other == place else "ever", {other: ["b"]})

    def test_shunned_first_stands(self):
        street = Street(LINE, 5, [LINE, LINE], LINE)
        for stand, shun in (((4, "b"), {"left": ["b"]}), ((-60, "b"), {"left": ["a", "b"]}), ((5, "c"), {5: ["c"]}),
                            ((6, "c"), {5: [], 6: ["c", "c"]}), ((7, "f"), {"right": ["f"]}), ((60, "f"), {"right": ["f"]})):
            for asked_for, more in ((for_ever, ()), *((is_ever, (thing,)) for thing in things())):
                with self.assertRaises(Shunned) as caught:
                    asked_for(street, stand, *more, shun=shun)
                self.assertEqual(shape(vars(caught.exception)), shape({"stand": stand}))
        for stand, shun in (((4, "b"), {"left": ["a", "c"], 4: ["b"], 5: ["b"], "right": ["b"]}), ((5, "c"), {"left": ["c"], 6: ["c"]}),
                            ((7, "f"), {7: ["f"], "left": ["f"], 6: ["f"]})):
            self.tell(street, stand, "never", shun)

    def test_they_are_the_askers_own(self):
        for street, stand, shun in asked()[::5]:
            told = for_ever(street, stand, shun=shun)
            before = copy.deepcopy(told)
            self.assertLessEqual(len(lists_and_dicts(told)), 1)
            spoil(told)
            self.assertEqual(shape(for_ever(street, stand, shun=shun)), shape(before))


class IsEver(Asked):

    def setUp(self):
        # Out by x, y, two houses out and one in; at odd house 0 a circle; from d all ends.
        side = Sort(list("abcd"), [("x", "a", 1, "b", 1), ("y", "b", 1, "c", 1), ("z", "c", -1, "a", 1), ("end", "a", 0, "d", 1),
                                   ("in", "b", -1, "a", 1)])
        odd = Sort(list("ab"), [("out", "a", 1, "a", 1), ("to", "a", 0, "b", 1), ("fro", "b", 0, "a", 1)])
        self.street = Street(SHUT, 0, [odd], side)
        self.stand = (0, "a")

    def test_rounds(self):
        for way, again, told in (
                (("out",), ("x", "y", "z"), True), ((), ("to", "fro"), True), (("to",), ("fro", "to"), True), ((), ("to", "fro") * 3, True),
                ((), (), False), (("out",), (), False), (("out",), ("x",), False), (("out",), ("x", "y"), False),
                (("out", "x"), ("y", "z", "x"), True), (("out", "x", "y"), ("z", "x", "y"), False), (("out",), ("x", "y", "z", "x", "in"), True),
                (("out",), ("x", "in"), True), (("out", "x"), ("in", "x"), True), (("out", "x", "in"), ("x", "y", "z"), True),
                (("out",), ("end",), False), (("out", "end"), (), False), (("x",), ("to", "fro"), False), ((), ("out", "x", "y", "z"), False),
                ((), ("to",), False), (("to", "fro"), ("to", "fro"), True)):
            self.ask(self.street, self.stand, ("ever", way, again), told)
            self.assertEqual(by_words(self.street, self.stand, ("ever", way, again)), told)

    def test_a_round_further_in(self):
        for out in (-1, 1):
            sort = Sort(["a"], [("x", "a", out, "a", 1), ("y", "a", -out, "a", 1)])
            street = Street(sort, 0, [sort], sort)
            for house in (-60, -3, -2, -1, 0, 1, 2, 3, 60):
                for again in (("x",), ("y",), ("x", "x", "y"), ("y", "x", "x"), ("y", "x"), ("y", "y", "x"), ("x",) * 5,
                              ("x", "y", "y", "x", "x"), ("y",) * 130 + ("x",) * 131):
                    for way in ((), ("x",), ("y", "y")):
                        self.ask(street, (house, "a"), ("ever", way, again))

    def test_a_round_through_an_odd_house(self):
        sort = Sort(["a"], [("x", "a", 1, "a", 1), ("y", "a", -1, "a", 1)])
        street = Street(sort, 0, [sort], sort)
        for house, again, told in ((0, ("x",), False), (0, ("y",), False), (1, ("x",), True), (-1, ("y",), True), (-1, ("x",), False),
                                   (1, ("y",), False), (-1, ("x", "x"), False), (1, ("y", "x", "x"), False), (0, ("x", "y"), True),
                                   (-1, ("x", "x", "y", "y"), True), (1, ("x", "y", "x"), True), (2, ("y", "x", "x"), False)):
            self.ask(street, (house, "a"), ("ever", (), again), told)

    def test_a_round_in_another_room(self):
        street = alike(ring_sort("bca"))
        for again, told in ((("oa", "ob", "oc"), True), (("oa",), False), (("oa", "ob"), False), (("oa", "ob", "oc") * 2, True),
                            (("ob", "oc", "oa"), False)):
            self.ask(street, (0, "a"), ("ever", (), again), told)
        self.ask(street, (0, "a"), ("ever", ("oa",), ("ob", "oc", "oa")), True)

    def test_shunned_ones(self):
        for shun in ({"right": ["c"]}, {"right": ["b"]}, {0: ["b"]}, {"right": ["a"]}, {0: ["a"], "right": ["d"]}, {"left": ["a"]}):
            if self.stand[1] in shun.get(0, []):
                continue
            for way, again in ((("out",), ("x", "y", "z")), ((), ("to", "fro")), (("out",), ("x", "in"))):
                self.ask(self.street, self.stand, ("ever", way, again), None, shun)
        self.ask(self.street, self.stand, ("ever", ("out",), ("x", "y", "z")), False, {"right": ["c"]})
        self.ask(self.street, self.stand, ("ever", ("out",), ("x", "in")), True, {"right": ["c"]})

    def test_answers_for_other_shunned_rooms(self):
        unlike = 0
        for street, stand, shun in asked()[1::2]:
            told = for_ever(street, stand, shun=shun)
            self.ask(street, stand, told)
            plain = for_ever(street, stand)
            unlike += plain[0] != told[0]
            self.ask(street, stand, plain, None, shun)
        self.assertGreater(unlike, 5)

    def test_lists(self):
        street, stand = alike(LINE), (0, "a")
        full = [((k, room), 5 - k) for k, room in enumerate("abcdef")]
        for told, listed in (
                (True, full), (True, full[::-1]), (True, full + [((9, "f"), 0)]), (True, full + [((FAR, "f"), 0)]),
                (False, full + [((FAR + 1, "f"), 0)]), (True, full + [((-FAR, "f"), 7)]), (False, full + [((-FAR - 1, "f"), 7)]),
                (False, full[1:]), (False, full[:-1]), (False, full[:2] + full[3:]), (False, full + full[:1]), (False, full + full[-1:]),
                (False, full + [((5, "f"), 9)]), (False, []), (False, [(stand, 0)]), (False, full + [((9, "e"), 3)]),
                (True, full + [((9, "e"), 3), ((10, "f"), 2)]), (False, full + [((9, "e"), 3), ((10, "f"), 3)]),
                (True, [(here, number * HUGE) for here, number in full]), (True, [(here, number + 3) for here, number in full]),
                (False, [(here, number - 1) for here, number in full]), (False, [(here, 0) for here, _ in full]),
                (False, [(here, 5) for here, _ in full]), (False, [(here, -number) for here, number in full]),
                (False, full + [((9, "nowhere"), 0)]), (False, full + [((9, None), 0)]), (False, full + [(None, 0)]), (False, full + [None]),
                (False, tuple(full)), (False, dict(full)), (False, [list(pair) for pair in full]), (False, full + [((9, "f"), True)]),
                (False, full + [((9, "f"), None)]), (False, full + [((True, "f"), 0)]), (True, full + [((1, "f"), 0)]),
                (False, full + [([9, "f"], 0)]), (False, full + [((9, "f"), 0, 0)]), (False, full + [((9, "f"),)]),
                (False, full + [((9, "f", 0), 0)]), (False, full + [((9, []), 0)]), (False, full + [((9, {}), 0)])):
            self.ask(street, stand, ("never", listed), told)
            self.assertEqual(by_words(street, stand, ("never", listed)), told)
        for k in range(6):
            for number in (full[k][1] - 1, full[k][1] + 1, str(full[k][1]), True, False, None, -1):
                self.ask(street, stand, ("never", [*full[:k], (full[k][0], number), *full[k + 1:]]))

    def test_a_truth_for_a_number(self):
        for number, told in ((0, True), (1, True), (False, False), (True, False), (-1, False)):
            self.ask(alike(SHUT), (0, "a"), ("never", [((0, "a"), number)]), told)

    def test_a_listed_stand_in_a_shunned_room(self):
        street, stand = alike(LINE), (0, "a")
        full = [((0, "a"), 1), ((1, "b"), 0)]
        for listed, told in ((full, True), (full + [((2, "c"), 2), ((3, "d"), 1)], False), (full + [((2, "c"), 9)], False),
                             (full + [((2, "c"), 9), ((3, "d"), 8), ((4, "e"), 7), ((5, "f"), 3)], True), (full + [((9, "f"), 0)], True)):
            self.ask(street, stand, ("never", listed), told, {"left": ["c"], "right": ["c"]})
            self.assertEqual(by_words(street, stand, ("never", listed), {"left": ["c"], "right": ["c"]}), told)

    def test_the_last_house_of_twelve_figures(self):
        street = alike(ring_sort("ba"))
        # From it a door leads on, to a house that can't be listed.
        line = alike(ring_sort("b-"))
        for house, told in ((FAR, False), (FAR - 1, True), (-FAR, True)):
            self.ask(line, (0, "b"), ("never", [((0, "b"), 0), ((house, "a"), 1), ((house + 1, "b"), 0)]), told)
        self.ask(line, (0, "b"), ("never", [((0, "b"), 0), ((FAR, "a"), 1)]), False)
        self.ask(line, (0, "b"), ("never", [((0, "b"), 0), ((FAR, "b"), 1)]), True)
        self.ask(street, (0, "a"), ("never", [((0, "a"), 0)]), False)

    def test_things_at_each_place(self):
        def words(part):
            if isinstance(part, str):
                yield from ("a", "b", "x", "out", "to", "ever", "never", "Ever", "", 1, None, True)

        def numbers(part):
            if type(part) is int:
                yield from (part - 1, part + 1, -part, True, False, None, str(part), [part], FAR, FAR + 1, HUGE)

        short = ("never", [((0, "a"), 2), ((0, "b"), 1), ((1, "a"), 1)])
        for change in (other_forms, any_things, words, numbers):
            for other in changed(("ever", ("out",), ("x", "y", "z")), change):
                self.ask(self.street, self.stand, other)
            for other in changed(short, change):
                self.ask(alike(ring_sort("--")), self.stand, other)
            for other in changed(("never", [((0, "a"), 1), ((1, "b"), 0)]), change):
                self.ask(alike(ring_sort("b-")), self.stand, other)

    def test_lists_with_one_thing_otherwise(self):
        for street, stand, shun in asked()[::3]:
            told = for_ever(street, stand, shun=shun)
            chance = random.Random(repr(stand))
            if told[0] == "never":
                for _ in range(6):
                    at = chance.randrange(len(told[1]))
                    here, number = told[1][at]
                    for other in ([], [(here, number - 1)], [(here, number + 1)], [(here, number)] * 2):
                        self.ask(street, stand, ("never", told[1][:at] + other + told[1][at + 1:]), None, shun)
            else:
                for at in range(len(told[1])):
                    self.ask(street, stand, ("ever", told[1][:at], told[1][at:]), None, shun)
                for at in range(min(9, len(told[2]))):
                    self.ask(street, stand, ("ever", told[1], told[2][:at]), None, shun)
                    self.ask(street, stand, ("ever", told[1] + told[2][:at], told[2][at:] + told[2][:at]), None, shun)
                    self.ask(street, stand, ("ever", told[1], told[2] * (at + 1)), True, shun)

    def test_things_of_any_kind(self):
        for thing in things():
            self.ask(self.street, self.stand, thing, False)
            self.ask(alike(SHUT), self.stand, thing, False)
            self.ask(self.street, self.stand, ("ever", thing, thing))
            self.ask(self.street, self.stand, ("never", thing), False)


class FirstStands(unittest.TestCase):

    def test_one_beyond_is_refused_ahead_of_all_else(self):
        street = alike(LINE)
        for house in (61, -61, 62, FAR, -FAR, HUGE):
            for room in ("a", "nowhere"):
                for shun in (None, {}, {"left": ["a"], "right": ["a"]}):
                    for one, more in ((for_ever, ()), *((is_ever, (thing,)) for thing in things())):
                        with self.assertRaises(TooFar) as caught:
                            one(street, (house, room), *more, shun=shun)
                        self.assertEqual(shape(vars(caught.exception)), shape({"house": house}))

    def test_sixty_is_near_enough(self):
        for house in (60, -60):
            self.assertEqual(for_ever(alike(LINE), (house, "a"))[0], "never")
            self.assertIs(is_ever(alike(SHUT), (house, "a"), ("never", [((house, "a"), 0)])), True)

    def test_just_the_kinds_whatever_is_handed_in(self):
        class Number(int):
            pass

        class Word(str):
            pass

        stand = (Number(-20), Word("a"))
        for sort in (LINE, ring_sort("bca")):
            self.assertEqual(shape(for_ever(alike(sort), stand)), shape(for_ever(alike(sort), (-20, "a"))))
        with self.assertRaises(Shunned) as caught:
            for_ever(alike(LINE), stand, shun={"left": ["a"]})
        self.assertEqual(shape(vars(caught.exception)), shape({"stand": (-20, "a")}))


class Interface(unittest.TestCase):

    def test_each_is_defined_in_its_file(self):
        for one, names in ((for_ever, "(street, stand, *, shun=None)"), (is_ever, "(street, stand, thing, *, shun=None)")):
            self.assertEqual(one.__module__, ever.__name__)
            self.assertEqual(str(inspect.signature(one)), names)

    def test_by_names(self):
        told = for_ever(shun={"right": ["f"]}, stand=(0, "a"), street=alike(LINE))
        self.assertEqual(dict(told[1])[0, "a"], 4)
        self.assertIs(is_ever(shun={"right": ["f"]}, thing=told, stand=(0, "a"), street=alike(LINE)), True)

    def test_shun_by_name_alone(self):
        with self.assertRaises(TypeError):
            for_ever(alike(LINE), (0, "a"), None)
        with self.assertRaises(TypeError):
            is_ever(alike(LINE), (0, "a"), None, None)

    def test_the_street_is_as_it_was(self):
        street, same = linked_street(5), linked_street(5)
        is_ever(street, (0, "a"), for_ever(street, (0, "a")))
        self.assertEqual(street, same)


if __name__ == "__main__":
    unittest.main()
