"""Loops out, first comings and their powers (points 20 and 21)."""

import inspect
import itertools
import unittest

from likehouses import relations
from likehouses.relations import comes_again, first_comings, loops_out, power
from likehouses.streets import Sort, Street
from tests.samples import Doors, alike, chance_street, ring_sort, shape

SIDES = (("left", -1), ("right", 1))
HUGE = 123456789012345678901234567890


def turned(sort):
    """A sort whose doors lead the other way."""
    return Sort(sort.rooms(), [(name, room, -move, goal, price) for name, room, move, goal, price in sort.doors()])


def side_street(sort, side):
    """A street with this sort on one side, another one on the other, and odd ones amid."""
    other = Sort(["x", "a"], [("on", "x", 0, "a", 1), ("over", "a", 1, "x", 1), ("back", "x", -1, "a", 1)])
    if side == "left":
        return Street(sort, 3, [other, other], other)
    return Street(other, -4, [other], sort)


def found_loops(sort, out):
    """Pairs found by a search through all stands, from house 0 and never nearer."""
    doors, pairs = Doors(alike(sort)), []
    for room in sort.rooms():
        found, waiting = {(0, room)}, [(0, room)]
        while waiting:
            for _, (goal, _) in doors.there(*waiting.pop()):
                if 0 <= goal[0] * out <= 45 and goal not in found:
                    found.add(goal)
                    waiting.append(goal)
        pairs += [(room, goal) for house, goal in found if house == 0]
    return sorted(pairs)


def found_comings(sort, out):
    doors = Doors(alike(sort))
    return sorted({(room, goal) for room, last in found_loops(sort, out)
                   for _, ((house, goal), _) in doors.there(0, last) if house == out})


def behind(one, other):
    """Pairs of the one with pairs of the other put behind them."""
    return sorted({(room, goal) for room, amid in one for begin, goal in other if begin == amid})


def first_powers(pairs, many):
    """The powers from 1 on, one by one."""
    told = [pairs]
    while len(told) < many:
        told.append(behind(told[-1], pairs))
    return told


def again(powers):
    """From which power on they come again, and by how many: the least ahead, then the least round."""
    half = len(powers) // 2
    for ahead in range(1, half):
        for many in range(1, half - ahead):
            if all(powers[k - 1] == powers[k - 1 + many] for k in range(ahead, len(powers) + 1 - many)):
                return ahead, many


# The steps lead three houses out before they come back, in other rooms.
DEEP = Sort(list("abcdef"), [("da", "a", 1, "b", 1), ("db", "b", 1, "c", 1), ("dc", "c", 1, "d", 1),
                             ("dd", "d", -1, "e", 1), ("de", "e", -1, "f", 1), ("df", "f", -1, "a", 1)])
# Out twice in one room, back twice in two others: what is found grows with what is found further out.
COUNTED = Sort(list("abcdef"), [("da", "a", 1, "a", 1), ("db", "a", 0, "b", 1), ("dc", "b", -1, "c", 1),
                                ("dd", "c", -1, "d", 1), ("de", "d", -1, "b", 1), ("df", "d", 0, "e", 1),
                                ("dg", "e", 1, "f", 1), ("dh", "f", -1, "e", 1)])
INWARD = Sort(["a", "b", "c"], [("da", "a", -1, "b", 1), ("db", "b", -1, "c", 1), ("dc", "c", -1, "a", 1)])
OUTWARD = Sort(["a", "b", "c"], [("da", "a", 1, "b", 1), ("db", "b", 1, "c", 1), ("dc", "c", 1, "a", 1)])
WITHIN = Sort(["a", "b", "c"], [("da", "a", 0, "b", 1), ("db", "b", 0, "c", 1)])
LOST = Sort(["a", "b"], [("da", "a", 1, "x", 1), ("db", "a", 0, "x", 1), ("dc", "a", -1, "x", 1), ("dd", "b", 1, "a", 1)])
NONE = Sort(list("abcdef"), [])
ONE = Sort(["a"], [("da", "a", 1, "a", 1)])
SORTS = [DEEP, COUNTED, INWARD, OUTWARD, WITHIN, LOST, NONE, ONE, Sort(["a"], []), Sort(["a"], [("i", "a", -1, "a", 1)]),
         ring_sort("bcdefa"), ring_sort("badec-"), ring_sort("acdefb"), ring_sort("bcdeff"), ring_sort("bcdef-"),
         ring_sort("bcdefa", more=[("chord", "f", 1, "b", 1)]), ring_sort("babcde"), ring_sort("baaaaa")]


class Asked(unittest.TestCase):

    def each(self):
        """Each sort with each side, as it is and turned so that it leads that way out: (street, sort, side, out)."""
        for sort in SORTS:
            for side, out in SIDES:
                yield side_street(sort, side), sort, side, out
                yield side_street(turned(sort), side), turned(sort), side, out
        for seed in range(60):
            street = chance_street(seed, rooms=6)
            for side, out in SIDES:
                yield street, street.left() if side == "left" else street.right(), side, out


class Loops(Asked):

    def test_against_a_search(self):
        for street, sort, side, out in self.each():
            self.assertEqual(shape(loops_out(street, side)), shape(found_loops(sort, out)), (sort.doors(), side))

    def test_some(self):
        for sort, pairs in (
                (NONE, [(room, room) for room in "abcdef"]), (ONE, [("a", "a")]), (INWARD, ["aa", "bb", "cc"]),
                (OUTWARD, ["aa", "bb", "cc"]), (WITHIN, ["aa", "ab", "ac", "bb", "bc", "cc"]), (LOST, ["aa", "bb"]),
                (DEEP, ["aa", "bb", "bf", "cc", "ce", "dd", "ee", "ff"])):
            told = shape([tuple(pair) for pair in pairs])
            self.assertEqual(shape(loops_out(side_street(sort, "right"), "right")), told)
            self.assertEqual(shape(loops_out(side_street(turned(sort), "left"), "left")), told)

    def test_each_room_with_itself(self):
        for street, sort, side, _ in self.each():
            told = loops_out(street, side)
            for room in sort.rooms():
                self.assertIn((room, room), told)

    def test_rising_and_none_twice(self):
        for street, _, side, _ in self.each():
            for told in (loops_out(street, side), first_comings(street, side), power(street, side, 3)):
                self.assertEqual(told, sorted(set(told)))

    def test_the_sides_sort_alone(self):
        # The other side and the odd houses have doors, and rooms, that don't count.
        for side, other in (("left", "right"), ("right", "left")):
            street = side_street(ONE, side)
            self.assertEqual(loops_out(street, side), [("a", "a")])
            self.assertEqual(loops_out(street, other), loops_out(alike(street.sort_at(street.first())), other))


class Comings(Asked):

    def test_against_a_search(self):
        for street, sort, side, out in self.each():
            self.assertEqual(shape(first_comings(street, side)), shape(found_comings(sort, out)), (sort.doors(), side))

    def test_some(self):
        for sort, pairs in ((ONE, ["aa"]), (OUTWARD, ["ab", "bc", "ca"]), (INWARD, []), (WITHIN, []), (NONE, []),
                            (LOST, ["ba"]), (ring_sort("bcdefa"), ["ab", "bc", "cd", "de", "ef", "fa"])):
            self.assertEqual(shape(first_comings(alike(sort), "right")), shape([tuple(pair) for pair in pairs]))
        for sort, pairs in ((ONE, []), (OUTWARD, []), (INWARD, ["ab", "bc", "ca"]), (WITHIN, []), (NONE, [])):
            self.assertEqual(shape(first_comings(alike(sort), "left")), shape([tuple(pair) for pair in pairs]))


class Powers(Asked):

    def test_one_by_one(self):
        for street, sort, side, out in self.each():
            powers = first_powers(found_comings(sort, out), 30)
            for k, pairs in enumerate(powers):
                self.assertEqual(shape(power(street, side, k + 1)), shape(pairs), (sort.doors(), side, k + 1))

    def test_the_first_is_the_first_comings(self):
        for street, _, side, _ in self.each():
            self.assertEqual(power(street, side, 1), first_comings(street, side))

    def test_of_thirty_figures(self):
        for street, sort, side, out in self.each():
            powers = first_powers(found_comings(sort, out), 80)
            ahead, many = again(powers)
            for k in (10 ** 29, 10 ** 29 + 1, 10 ** 30 - 1, 10 ** 30 - 2, HUGE, HUGE + 1, HUGE + 2, 2 ** 99, 60060):
                self.assertEqual(power(street, side, k), powers[ahead - 1 + (k - ahead) % many])

    def test_rings(self):
        for goals, round_ in (("bcdefa", 6), ("badec-", 6), ("badecf", 6), ("acdefb", 5), ("abcdef", 1), ("ba", 2)):
            for k in (1, 2, 5, 6, 10 ** 29, HUGE, HUGE + 1, 10 ** 30 - 1):
                for side, out in SIDES:
                    told = power(alike(ring_sort(goals, out)), side, k)
                    for begin, end in told:
                        at = begin
                        for _ in range(k % round_):
                            at = goals["abcdef".index(at)]
                        self.assertEqual(at, end)
                    self.assertEqual(len(told), len(goals) - goals.count("-"))

    def test_no_first_coming_at_all(self):
        for sort in (NONE, WITHIN, INWARD):
            for k in (1, 2, 10 ** 29):
                self.assertEqual(shape(power(alike(sort), "right", k)), shape([]))


class ComesAgain(Asked):

    def test_against_powers_one_by_one(self):
        for street, sort, side, out in self.each():
            told = comes_again(street, side)
            self.assertEqual(shape(told), shape(again(first_powers(found_comings(sort, out), 90))), sort.doors())

    def test_some(self):
        for sort, told in (
                (NONE, (1, 1)), (INWARD, (1, 1)), (ONE, (1, 1)), (OUTWARD, (1, 3)), (ring_sort("bcdefa"), (1, 6)),
                (ring_sort("badec-"), (1, 6)), (ring_sort("acdefb"), (1, 5)), (ring_sort("bcdeff"), (5, 1)),
                (ring_sort("bcdef-"), (6, 1)), (ring_sort("bc-"), (3, 1)), (ring_sort("babcde"), (4, 2)),
                (ring_sort("bcdefa", more=[("chord", "f", 1, "b", 1)]), (26, 1))):
            self.assertEqual(shape(comes_again(alike(sort), "right")), shape(told))
            self.assertEqual(shape(comes_again(alike(turned(sort)), "left")), shape(told))


class Told(unittest.TestCase):

    def test_a_told_list_changed_behind(self):
        street = alike(OUTWARD)
        for asked, more in ((loops_out, ()), (first_comings, ()), (power, (2,)), (power, (10 ** 29,))):
            before = list(asked(street, "right", *more))
            asked(street, "right", *more).append("spoilt")
            asked(street, "right", *more).clear()
            self.assertEqual(asked(street, "right", *more), before)
            self.assertIsNot(asked(street, "right", *more), asked(street, "right", *more))

    def test_the_street_is_as_it_was(self):
        for side, _ in SIDES:
            street, other = side_street(DEEP, side), side_street(DEEP, side)
            for one in ("left", "right"):
                loops_out(street, one), first_comings(street, one), power(street, one, 9), comes_again(street, one)
            self.assertEqual(street, other)

    def test_each_is_defined_in_its_file(self):
        for asked, names in ((loops_out, "(street, side)"), (first_comings, "(street, side)"),
                             (power, "(street, side, many)"), (comes_again, "(street, side)")):
            self.assertEqual(asked.__module__, relations.__name__)
            self.assertEqual(str(inspect.signature(asked)), names)

    def test_by_names(self):
        street = alike(ONE)
        for asked in (loops_out, first_comings):
            self.assertEqual(asked(side="right", street=street), [("a", "a")])
        self.assertEqual(power(many=3, side="right", street=street), [("a", "a")])
        self.assertEqual(comes_again(side="right", street=street), (1, 1))

    def test_all_pairs_of_two_rooms(self):
        # Each way of one door out, one door in and one within, of two rooms.
        ends = list(itertools.product("ab", repeat=2))
        for (a, b), (c, d), (e, f) in itertools.product(ends, repeat=3):
            sort = Sort(["a", "b"], [("x", a, 1, b, 1), ("y", c, -1, d, 1), ("z", e, 0, f, 1)])
            for side, out in SIDES:
                self.assertEqual(loops_out(alike(sort), side), found_loops(sort, out))
                self.assertEqual(first_comings(alike(sort), side), found_comings(sort, out))
                self.assertEqual(comes_again(alike(sort), side), again(first_powers(found_comings(sort, out), 20)))


if __name__ == "__main__":
    unittest.main()
