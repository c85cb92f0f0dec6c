"""Lots, their papers, and the looker over them (points 36, 37 and 4)."""

import copy
import inspect
import itertools
import random
import unittest

from likehouses import lots as module
from likehouses.changes import walled
from likehouses.errors import NoName, TooFar
from likehouses.fences import bars, fence, is_fence
from likehouses.lots import covers, lot_holds, lot_paper, lots
from likehouses.rows import is_rows, rows_gone
from likehouses.streets import Sort, Street, places_of
from likehouses.telling import way_to
from tests.samples import (alike, any_things, changed, linked_street, lists_and_dicts, lots_found, other_forms, shape, spoil,
                           things)

HUGE = 123456789012345678901234567890
FAR = 10 ** 12 - 1
ONE = Sort(["a"], [("in", "a", -1, "a", 1), ("out", "a", 1, "a", 2)])
TWO = Sort(["a", "b"], [("in", "a", -1, "a", 1), ("out", "a", 1, "a", 2), ("oute", "a", 1, "a", 3)])


def all_lots(many):
    return [lot for size in range(many + 1) for lot in itertools.combinations(range(many), size)]


def with_walls(street, doors, lot):
    for k in lot:
        street = walled(street, *doors[k])
    return street


def barring(street, stand, other, doors):
    """The lots that bar, by searches through all stands of the street so walled."""
    return [lot for lot in all_lots(len(doors))
            if other[1] not in lots_found(with_walls(street, doors, lot), stand, other[0], other[0])[other[0]]]


def by_words(street, stand, other, doors):
    """All least lots that bar and all greatest that don't."""
    many, bar = len(doors), barring(street, stand, other, doors)
    fails = [lot for lot in all_lots(many) if lot not in bar]
    return (sorted(lot for lot in bar if not any(set(less) < set(lot) for less in bar)),
            sorted(lot for lot in fails if not any(set(lot) < set(more) for more in fails)))


def asked(many=40, most=6):
    """Questions of lots by chance."""
    for seed in range(many):
        chance = random.Random(seed)
        street = linked_street(seed, most_odd=3, rooms=chance.randint(1, 3))
        house, far = [max(-60, min(60, street.first() + chance.randint(-2, len(street) + 1))) for _ in range(2)]
        stand = (house, chance.choice(street.sort_at(house).rooms()))
        other = (far, chance.choice(street.sort_at(far).rooms()))
        doors = []
        for place in places_of(street):
            near = {"left": -99, "right": 99}.get(place, place)
            doors += [(place, door[0]) for door in street.sort_at(near).doors()]
        doors = chance.sample(doors, min(len(doors), chance.randint(0, most)))
        yield street, stand, other, chance.choice([list, tuple])(doors)


def one_road():
    """From the left side by an odd house to the right one; two doors in the odd house lead out. No way leads to room b."""
    return Street(ONE, 0, [TWO], ONE)


class Lots(unittest.TestCase):

    def ask(self, street, stand, other, doors, told=None):
        before = copy.deepcopy(doors)
        told = by_words(street, stand, other, doors) if told is None else told
        self.assertEqual(shape(lots(street, stand, other, doors)), shape(told))
        self.assertEqual(shape(doors), shape(before))

    def test_against_all_sets_of_doors(self):
        for street, stand, other, doors in asked(36, 5):
            self.ask(street, stand, other, doors)

    def test_six_doors(self):
        for street, stand, other, doors in [one for one in asked(12) if len(one[3]) == 6]:
            self.ask(street, stand, other, doors)

    def test_no_door(self):
        for doors in ([], ()):
            self.ask(one_road(), (-3, "a"), (3, "a"), doors, ([], [()]))
            self.ask(alike(Sort(["a"], [])), (-3, "a"), (3, "a"), doors, ([()], []))
            self.ask(one_road(), (3, "a"), (3, "a"), doors, ([], [()]))

    def test_plain_ones(self):
        street, stand, other = one_road(), (-3, "a"), (3, "a")
        for doors, told in (
                ([("left", "out")], ([(0,)], [()])), ([("left", "in")], ([], [(0,)])), ([(0, "out")], ([], [(0,)])),
                ([(0, "out"), (0, "oute")], ([(0, 1)], [(0,), (1,)])), ([(0, "out"), ("right", "out"), (0, "oute")],
                                                                       ([(0, 2), (1,)], [(0,), (2,)])),
                (((0, "out"), ("right", "in"), (0, "oute"), ("left", "in")), ([(0, 2)], [(0, 1, 3), (1, 2, 3)])),
                ([("right", "out"), ("left", "out"), (0, "out"), (0, "oute"), ("right", "in"), (0, "in")],
                 ([(0,), (1,), (2, 3)], [(2, 4, 5), (3, 4, 5)])),
                ((("left", "out"), ("right", "out")), ([(0,), (1,)], [()]))):
            self.ask(street, stand, other, doors, told)

    def test_two_roads_one_of_two_doors(self):
        odd = Sort(["a", "b"], [("direct", "a", 1, "a", 1), ("up", "a", 0, "b", 1), ("on", "b", 1, "a", 1)])
        street = Street(ONE, 0, [odd], ONE)
        for doors, told in (([(0, "up"), (0, "direct"), (0, "on")], ([(0, 1), (1, 2)], [(0, 2), (1,)])),
                            ([(0, "direct"), (0, "up"), (0, "on")], ([(0, 1), (0, 2)], [(0,), (1, 2)])),
                            ([(0, "up"), ("left", "in"), (0, "on"), (0, "direct")], ([(0, 3), (2, 3)], [(0, 1, 2), (1, 3)]))):
            self.ask(street, (-2, "a"), (5, "a"), doors, told)

    def test_a_stand_that_cannot_be_come_to(self):
        street = Street(ONE, 0, [Sort(["a"], [])], ONE)
        self.ask(street, (-3, "a"), (3, "a"), [("left", "out"), ("right", "out")], ([()], []))
        self.ask(street, (-3, "a"), (FAR, "a"), [("left", "out"), ("right", "out")], ([()], []))

    def test_the_first_stand_itself(self):
        for stand in ((-60, "a"), (0, "a"), (60, "a")):
            self.ask(one_road(), stand, stand, [("left", "out"), (0, "out"), ("right", "in")], ([], [(0, 1, 2)]))

    def test_far_stands(self):
        doors = [("left", "out"), (0, "out"), (0, "oute"), ("right", "out")]
        self.ask(one_road(), (-60, "a"), (FAR, "a"), doors, ([(0,), (1, 2), (3,)], [(1,), (2,)]))
        self.ask(one_road(), (60, "a"), (-FAR, "a"), doors + [("left", "in")], ([(4,)], [(0, 1, 2, 3)]))

    def test_they_are_the_askers_own(self):
        for street, stand, other, doors in asked(15):
            told = lots(street, stand, other, doors)
            self.assertEqual(len({id(part) for part in lists_and_dicts(told)}), 2)
            before = copy.deepcopy(told)
            spoil(told)
            self.assertEqual(shape(lots(street, stand, other, doors)), shape(before))

    def test_they_are_covered(self):
        for street, stand, other, doors in asked(25):
            does, fails = lots(street, stand, other, doors)
            self.assertIs(covers(len(doors), does, fails), True)


class Refused(unittest.TestCase):

    def asked_for(self):
        return ((lots, ()), (lot_paper, ((),)), *((lot_holds, ((), thing)) for thing in [*things(), ("bars", None), ("not", None)]))

    def test_a_door_that_is_not_there(self):
        street = one_road()
        good = [("left", "out"), (0, "oute")]
        for wrong, asked_name in ((("nowhere", "out"), "nowhere"), ((1, "out"), 1), ((-1, "out"), -1), ((None, "out"), None),
                                  ((False, "out"), False), (("0", "out"), "0"), ((0, "nowhere"), "nowhere"), (("left", "oute"), "oute"),
                                  (("right", None), None), (("right", 5), 5), (("nowhere", "never"), "nowhere"), (([], {}), [])):
            for doors in ([wrong], good + [wrong], [wrong] + good, good[:1] + [wrong] + good[1:], tuple(good + [wrong]),
                          [wrong, ("else", "where")], good + [wrong, (9, "out")]):
                for other in ((3, "a"), (0, "b"), (0, "a")):
                    for one, more in self.asked_for():
                        with self.assertRaises(NoName) as caught:
                            one(street, (0, "a"), other, doors, *more)
                        self.assertEqual(shape(vars(caught.exception)), shape({"asked": asked_name}))

    def test_a_first_stand_beyond_goes_ahead_of_all_else(self):
        for house in (61, -61, FAR, -FAR, HUGE):
            for doors in ([("left", "out")], [("nowhere", "out")], [], None):
                for one, more in self.asked_for():
                    with self.assertRaises(TooFar) as caught:
                        one(one_road(), (house, "a"), (3, "a"), doors, *more)
                    self.assertEqual(shape(vars(caught.exception)), shape({"house": house}))

    def test_sixty_is_near_enough(self):
        for house in (60, -60):
            self.assertEqual(lots(one_road(), (house, "a"), (house, "a"), []), ([], [()]))
            self.assertEqual(lot_paper(one_road(), (house, "a"), (house, "a"), [], ())[0], "not")
            self.assertIs(lot_holds(one_road(), (house, "a"), (house, "a"), [], (), ("not", ([], []))), True)


class Papers(unittest.TestCase):

    def ask(self, question, lot, thing, told):
        before = copy.deepcopy(thing)
        self.assertIs(lot_holds(*question, lot, thing), told)
        self.assertEqual(shape(thing), shape(before))

    def right(self, question, lot, thing):
        """Whether a paper of a known kind is right, by the words of point 36."""
        street, stand, other, doors = question
        street = with_walls(street, doors, lot)
        if type(thing) is not tuple or len(thing) != 2 or type(thing[0]) is not str:
            return False
        if thing[0] == "bars":
            return is_fence(street, stand, thing[1]) and bars(thing[1], other)
        if thing[0] != "not" or not is_rows(thing[1]):
            return False
        try:
            return rows_gone(street, stand, thing[1])[0] == other
        except ValueError:
            return False

    def test_each_lot_has_one(self):
        for question in asked(25, 4):
            bar = barring(*question)
            for lot in all_lots(len(question[3])):
                paper = lot_paper(*question, lot)
                self.assertEqual([type(part) for part in paper], [str, tuple])
                self.assertEqual(paper[0], "bars" if lot in bar else "not")
                self.assertTrue(self.right(question, lot, paper))
                self.ask(question, lot, paper, True)

    def test_papers_of_other_lots(self):
        many = {True: 0, False: 0}
        for question in asked(16, 3):
            papers = {lot: lot_paper(*question, lot) for lot in all_lots(len(question[3]))}
            for lot in papers:
                for paper in papers.values():
                    told = self.right(question, lot, paper)
                    many[told] += 1
                    self.ask(question, lot, paper, told)
        self.assertGreater(min(many.values()), 10)

    def test_a_fence_that_bars_but_for_another_lot(self):
        question = (one_road(), (-3, "a"), (3, "a"), [(0, "out"), (0, "oute"), ("left", "out")])
        street, stand = one_road(), (-3, "a")
        shut = fence(with_walls(street, question[3], (0, 1)), stand)
        for lot, told in (((0, 1), True), ((0,), False), ((1,), False), ((), False), ((0, 1, 2), True), ((0, 2), False), ((2,), False)):
            self.ask(question, lot, ("bars", shut), told)
        nearer = fence(with_walls(street, question[3], (2,)), stand)
        for lot, told in (((2,), True), ((0, 1, 2), True), ((0, 1), False), ((), False)):
            self.ask(question, lot, ("bars", nearer), told)

    def test_a_fence_that_bars_another_stand(self):
        question = (one_road(), (-3, "a"), (-9, "a"), [(0, "out"), (0, "oute")])
        self.ask(question, (0, 1), ("bars", fence(with_walls(one_road(), question[3], (0, 1)), (-3, "a"))), False)
        self.ask(question, (0, 1), lot_paper(*question, (0, 1)), True)

    def test_a_way_through_a_walled_door(self):
        question = (one_road(), (-1, "a"), (1, "a"), [(0, "out"), (0, "oute"), ("left", "out")])
        for way, lot, told in ((["out", "out"], (), True), (["out", "out"], (1,), True), (["out", "out"], (0,), False),
                               (["out", "oute"], (0,), True), (["out", "oute"], (0, 1), False), (["out", "oute"], (2,), False),
                               (["out"], (), False), (["out", "out", "out"], (), False), ([], (), False), (["out", "go"], (), False),
                               (["out", "out", "out", "in"], (), True)):
            self.ask(question, lot, ("not", ([], way)), told)

    def test_a_way_in_rows(self):
        question = (one_road(), (1, "a"), (10 ** 11, "a"), [("right", "out"), ("right", "in")])
        way = ([("right", ["out"] * 3), ("right", ["out", "out", "in"])], [(0, 33333333333)])
        for lot, rows, told in (((), way, True), ((1,), way, True), ((0,), way, False),
                                ((), (way[0], [(1, 10 ** 11 - 1)]), True), ((1,), (way[0], [(1, 10 ** 11 - 1)]), False),
                                ((), (way[0], [(0, 33333333334)]), False), ((), (way[0], [(0, 33333333332), "out", "out", "out"]), True),
                                ((), (way[0], [(2, 1)]), False), ((), list(way), False), ((), (way[0], [(0, 0)]), False)):
            self.ask(question, lot, ("not", rows), told)

    def test_things_of_any_kind(self):
        question = (one_road(), (-1, "a"), (1, "a"), [(0, "out"), (0, "oute")])
        for lot in ((), (0, 1)):
            for thing in things():
                self.ask(question, lot, thing, False)
                self.ask(question, lot, ("bars", thing), False)
                self.ask(question, lot, ("not", thing), False)
                self.ask(question, lot, (thing, lot_paper(*question, lot)[1]), False)

    def test_a_paper_bent_in_one_place(self):
        def words(part):
            if isinstance(part, str):
                yield from ("a", "b", "out", "in", "oute", "bars", "not", "left", "right", "", 1, None, True)

        def numbers(part):
            if type(part) is int:
                yield from (part - 1, part + 1, 0, 10 ** 60, True, False, None, str(part), [part])

        question = (one_road(), (1, "a"), (9, "a"), [("right", "out"), (0, "oute")])
        papers = {(): ("not", ([("right", ["out"]), ("right", [(0, 2)])], [(1, 3), "out", (0, 1)])),
                  (0,): ("bars", (-2, [("a",), ("a",), ("a",), ("a",), ()], [("a",)], [()])), (0, 1): lot_paper(*question, (0, 1))}
        held = 0
        for lot, paper in papers.items():
            self.ask(question, lot, paper, True)
            for change in (other_forms, any_things, words, numbers):
                for thing in changed(paper, change):
                    told = self.right(question, lot, thing)
                    held += told
                    self.ask(question, lot, thing, told)
        self.assertGreater(held, 3)

    def test_they_are_the_askers_own(self):
        for question in asked(12, 3):
            for lot in all_lots(len(question[3])):
                paper = lot_paper(*question, lot)
                kept = lists_and_dicts(paper)
                self.assertEqual(len({id(part) for part in kept}), len(kept))
                before = copy.deepcopy(paper)
                spoil(paper)
                self.assertEqual(shape(lot_paper(*question, lot)), shape(before))

    def test_as_way_to_and_fence_tell(self):
        for street, stand, other, doors in asked(20, 3):
            for lot in all_lots(len(doors)):
                same = with_walls(street, doors, lot)
                way = way_to(same, stand, other)
                self.assertEqual(lot_paper(street, stand, other, doors, lot)[0], "bars" if way is None else "not")
                self.assertEqual(bars(fence(same, stand), other), way is None)


def covered(many, does, fails):
    """Point 37 by its words."""
    return all(any(set(least) <= set(lot) for least in does) != any(set(lot) <= set(greatest) for greatest in fails)
               for lot in all_lots(many))


class Covers(unittest.TestCase):

    def ask(self, many, does, fails, told=None):
        before = copy.deepcopy((does, fails))
        self.assertEqual(covered(many, does, fails), covered(many, does, fails) if told is None else told)
        self.assertIs(covers(many, does, fails), covered(many, does, fails))
        self.assertEqual((does, fails), before)

    def test_plain_ones(self):
        for many, does, fails, told in (
                (0, [], [], False), (0, [()], [], True), (0, [], [()], True), (0, [()], [()], False), (1, [(0,)], [()], True), (1, [()], [], True),
                (1, [], [(0,)], True), (1, [], [()], False), (1, [(0,)], [], False), (1, [(0,)], [(0,)], False), (1, [()], [(0,)], False),
                (2, [(0,), (1,)], [()], True), (2, [(0, 1)], [(0,), (1,)], True), (2, [(0, 1)], [(0,)], False), (2, [(0,)], [(1,)], True),
                (2, [(0,)], [()], False), (2, [(0,), (1,)], [(0,)], False), (2, [(0, 1)], [(0,), (1,), ()], True),
                (6, [(0, 1, 2, 3, 4, 5)], [tuple(k for k in range(6) if k != out) for out in range(6)], True),
                (6, [(0, 1, 2, 3, 4, 5)], [tuple(k for k in range(6) if k != out) for out in range(5)], False),
                (6, [(k,) for k in range(6)], [()], True), (6, [(k,) for k in range(5)], [()], False), (6, [()], [], True), (6, [], [], False),
                (6, [], [(0, 1, 2, 3, 4, 5)], True), (6, [], [(0, 1, 2, 3, 4)], False)):
            self.ask(many, does, fails, told)

    def test_one_out_one_in_both(self):
        for street, stand, other, doors in asked(20, 5):
            does, fails = lots(street, stand, other, doors)
            self.ask(len(doors), does, fails, True)
            for k in range(len(does)):
                self.ask(len(doors), does[:k] + does[k + 1:], fails, False)
                self.ask(len(doors), does, fails + [does[k]], False)
            for k in range(len(fails)):
                self.ask(len(doors), does, fails[:k] + fails[k + 1:], False)
                self.ask(len(doors), does + [fails[k]], fails, False)

    def test_by_chance(self):
        for seed in range(300):
            chance = random.Random(seed)
            many = chance.randint(0, 3)
            every = all_lots(many)
            self.ask(many, [lot for lot in every if chance.random() < 0.4], [lot for lot in every if chance.random() < 0.4])


class Interface(unittest.TestCase):

    def test_each_is_defined_in_its_file(self):
        for one, names in ((lots, "(street, stand, other, doors)"), (lot_paper, "(street, stand, other, doors, lot)"),
                           (lot_holds, "(street, stand, other, doors, lot, thing)"), (covers, "(many, does, fails)")):
            self.assertEqual(one.__module__, module.__name__)
            self.assertEqual(str(inspect.signature(one)), names)

    def test_by_names(self):
        told = lots(doors=[("left", "out")], other=(3, "a"), stand=(-3, "a"), street=one_road())
        self.assertEqual(told, ([(0,)], [()]))
        paper = lot_paper(lot=(0,), doors=[("left", "out")], other=(3, "a"), stand=(-3, "a"), street=one_road())
        self.assertIs(lot_holds(thing=paper, lot=(0,), doors=[("left", "out")], other=(3, "a"), stand=(-3, "a"), street=one_road()), True)
        self.assertIs(covers(fails=[()], does=[(0,)], many=1), True)

    def test_what_is_handed_in_is_as_it_was(self):
        street, doors = one_road(), [("left", "out"), (0, "out")]
        lots(street, (0, "a"), (3, "a"), doors), lot_paper(street, (0, "a"), (3, "a"), doors, (0, 1))
        self.assertEqual((street, doors), (one_road(), [("left", "out"), (0, "out")]))


if __name__ == "__main__":
    unittest.main()
