"""Steps and ways (points 14 and 15)."""

import copy
import inspect
import itertools
import random
import unittest

from likehouses import ways
from likehouses.errors import NoStep, NoText, NoWay
from likehouses.streets import Sort, Street
from likehouses.ways import done, played, price_of, read_way, show_way, steps
from tests.samples import NAMES, NO_NAMES, Doors, chance_street, houses_about, shape, things

FAR = 123456789012345678901234567890


def gapped():
    """Its doors lead to next houses that lack the goal at both borders and about the odd houses 0 and 1."""
    left = Sort(["hall", "loft"], [("down", "loft", 0, "hall", 3), ("east", "hall", 1, "hall", 5),
                                   ("west", "hall", -1, "loft", 99), ("yon", "loft", 1, "loft", 7)])
    one = Sort(["hall"], [("east", "hall", 1, "hall", 1), ("over", "hall", 1, "pit", 2), ("up", "hall", 0, "loft", 8),
                          ("west", "hall", -1, "loft", 4)])
    two = Sort(["pit"], [("back", "pit", -1, "hall", 6), ("down", "pit", 0, "pit", 9), ("on", "pit", 1, "pit", 10),
                         ("turn", "pit", -1, "pit", 12)])
    right = Sort(["hall", "pit"], [("aback", "pit", -1, "hall", 20), ("back", "pit", -1, "pit", 21),
                                   ("climb", "pit", 0, "hall", 22), ("on", "pit", 1, "pit", 23),
                                   ("onward", "hall", 1, "hall", 24)])
    return Street(left, 0, [one, two], right)


GAPPED = [
    ((-2, "hall"), ["east", "west"]), ((-2, "loft"), ["down", "yon"]),
    ((-1, "hall"), ["east", "west"]), ((-1, "loft"), ["down"]),
    ((0, "hall"), ["over", "west"]),
    ((1, "pit"), ["back", "down", "on"]),
    ((2, "pit"), ["back", "climb", "on"]), ((2, "hall"), ["onward"]),
    ((3, "pit"), ["aback", "back", "climb", "on"]), ((3, "hall"), ["onward"]),
    ((-FAR, "hall"), ["east", "west"]), ((-FAR, "loft"), ["down", "yon"]),
    ((FAR, "pit"), ["aback", "back", "climb", "on"]), ((FAR, "hall"), ["onward"]),
]


def told_or_why(asked, *given):
    """What is told, or of which class the refusal is, with its fields."""
    try:
        return asked(*given)
    except (NoStep, NoWay, NoText) as refusal:
        return (refusal.__class__, vars(refusal))


def step_names(street):
    sorts = [street.left(), street.right(), *street.odd()]
    return sorted({door[0] for sort in sorts for door in sort.doors()} | {"nowhere", "hall"})


class Steps(unittest.TestCase):

    def test_just_the_doors_that_are_there_rising(self):
        for stand, names in GAPPED:
            with self.subTest(stand):
                self.assertEqual(shape(steps(gapped(), stand)), shape(names))

    def test_against_the_words_of_point_11(self):
        for seed in range(40):
            street = chance_street(seed)
            doors = Doors(street)
            for house in [*houses_about(street), FAR, -FAR]:
                for room in doors.rooms(house):
                    names = [name for name, _ in doors.there(house, room)]
                    self.assertEqual(shape(steps(street, (house, room))), shape(sorted(names)))

    def test_doors_of_the_same_room_both_ways_and_within(self):
        sort = Sort(["a"], [("c", "a", -1, "a", 1), ("b", "a", 0, "a", 2), ("a", "a", 1, "a", 3)])
        self.assertEqual(steps(Street(sort, 0, [], sort), (0, "a")), ["a", "b", "c"])

    def test_no_door_at_all(self):
        sort = Sort(["a"], [])
        self.assertEqual(shape(steps(Street(sort, 0, [], sort), (5, "a"))), shape([]))

    def test_a_told_list_changed_behind(self):
        street, stand = gapped(), (-2, "hall")
        first = steps(street, stand)
        first.append("spoilt")
        self.assertEqual(steps(street, stand), ["east", "west"])
        self.assertIsNot(steps(street, stand), steps(street, stand))


class Done(unittest.TestCase):

    def test_stand_and_price(self):
        for stand, step, told in (
                ((-2, "hall"), "east", ((-1, "hall"), 5)), ((-2, "hall"), "west", ((-3, "loft"), 99)),
                ((-1, "hall"), "east", ((0, "hall"), 5)), ((0, "hall"), "over", ((1, "pit"), 2)),
                ((0, "hall"), "west", ((-1, "loft"), 4)), ((1, "pit"), "down", ((1, "pit"), 9)),
                ((1, "pit"), "on", ((2, "pit"), 10)), ((2, "pit"), "back", ((1, "pit"), 21)),
                ((FAR, "pit"), "on", ((FAR + 1, "pit"), 23)), ((-FAR, "hall"), "west", ((-FAR - 1, "loft"), 99)),
                ((10 ** 12 - 1, "pit"), "on", ((10 ** 12, "pit"), 23)),
                ((1 - 10 ** 12, "hall"), "west", ((-10 ** 12, "loft"), 99))):
            with self.subTest(stand=stand, step=step):
                self.assertEqual(shape(done(gapped(), stand, step)), shape(told))

    def test_each_refusal(self):
        for stand, step, why in (
                ((0, "hall"), "", "form"), ((0, "hall"), "nowhere", "door"), ((0, "hall"), "yon", "door"),
                ((-2, "hall"), "down", "room"), ((1, "pit"), "over", "door"), ((2, "hall"), "climb", "room"),
                ((0, "hall"), "east", "goal"), ((0, "hall"), "up", "goal"), ((-1, "loft"), "yon", "goal"),
                ((1, "pit"), "turn", "goal"), ((2, "pit"), "aback", "goal")):
            with self.subTest(stand=stand, step=step):
                self.assertEqual(told_or_why(done, gapped(), stand, step), (NoStep, {"why": why}))

    def test_of_two_that_are_due_the_one_told_first_goes(self):
        # In house -1 yon is a door of another room than hall, and its goal isn't in house 0 either.
        street = gapped()
        self.assertEqual(told_or_why(done, street, (-1, "loft"), "yon"), (NoStep, {"why": "goal"}))
        self.assertEqual(told_or_why(done, street, (-1, "hall"), "yon"), (NoStep, {"why": "room"}))
        self.assertEqual(told_or_why(done, street, (-1, "hall"), "on"), (NoStep, {"why": "door"}))
        self.assertEqual(told_or_why(done, street, (-1, "hall"), "Yon"), (NoStep, {"why": "form"}))

    def test_against_the_words_of_points_11_and_14(self):
        for seed in range(25):
            street = chance_street(seed)
            doors, names = Doors(street), step_names(street)
            for house in [*houses_about(street), FAR, -FAR]:
                for room, step in itertools.product(doors.rooms(house), names + ["", "No"]):
                    why = doors.why_not(house, room, step)
                    told = (NoStep, {"why": why}) if why else dict(doors.there(house, room))[step]
                    self.assertEqual(shape(told_or_why(done, street, (house, room), step)), shape(told))

    def test_steps_that_are_no_names(self):
        for step in NO_NAMES + [thing for thing in things() if thing != "form"]:
            before = copy.deepcopy(step)
            self.assertEqual(told_or_why(done, gapped(), (0, "hall"), step), (NoStep, {"why": "form"}))
            self.assertEqual(shape(step), shape(before))
        self.assertEqual(told_or_why(done, gapped(), (0, "hall"), "form"), (NoStep, {"why": "door"}))

    def test_names_of_one_letter_and_of_eight(self):
        for name in NAMES:
            sort = Sort([name], [(name, name, 1, name, 4)])
            street = Street(sort, 0, [], sort)
            self.assertEqual(steps(street, (3, name)), [name])
            self.assertEqual(done(street, (3, name), name), ((4, name), 4))
            self.assertEqual(told_or_why(done, street, (3, name), name + "a" * 8), (NoStep, {"why": "form"}))
            self.assertEqual(told_or_why(done, street, (3, name), "other"), (NoStep, {"why": "door"}))

    def test_what_is_told_is_of_just_the_kinds(self):
        class Word(str):
            pass

        class Number(int):
            pass

        stand = (Number(1), Word("pit"))
        self.assertEqual(shape(done(gapped(), stand, Word("down"))), shape(((1, "pit"), 9)))
        self.assertEqual(shape(played(gapped(), stand, [Word("down")])), shape([(1, "pit"), (1, "pit")]))
        self.assertEqual(shape(played(gapped(), stand, [])), shape([(1, "pit")]))
        self.assertEqual(shape(show_way((Word("down"),))), shape("down"))
        self.assertEqual(shape(read_way(Word("down, on"))), shape(("down", "on")))
        self.assertEqual(shape(read_way(Word("down"))), shape(("down",)))

    def test_what_is_refused_changes_nothing(self):
        street, other = gapped(), gapped()
        for step in ("", "nowhere", "east", "up"):
            told_or_why(done, street, (0, "hall"), step)
        self.assertEqual(street, other)
        self.assertEqual(done(street, (0, "hall"), "over"), ((1, "pit"), 2))


LONG = ["east", "east", "over", "down", "on", "on", "climb", "onward"]
LONG_STANDS = [(-2, "hall"), (-1, "hall"), (0, "hall"), (1, "pit"), (1, "pit"), (2, "pit"), (3, "pit"), (3, "hall"),
               (4, "hall")]
LONG_PRICES = [5, 5, 2, 9, 10, 23, 22, 24]


class Ways(unittest.TestCase):

    def refused(self, street, stand, way, at, why):
        for kind in (list, tuple):
            for asked in (played, price_of):
                told = told_or_why(asked, street, stand, kind(way))
                self.assertEqual(shape(told[1]), shape({"at": at, "why": why}))
                self.assertIs(told[0], NoWay)

    def test_no_step(self):
        for kind in (list, tuple):
            self.assertEqual(shape(played(gapped(), (1, "pit"), kind())), shape([(1, "pit")]))
            self.assertEqual(shape(price_of(gapped(), (1, "pit"), kind())), shape(0))

    def test_stands_and_prices_of_each_length(self):
        for many in range(len(LONG) + 1):
            for kind in (list, tuple):
                way = kind(LONG[:many])
                self.assertEqual(shape(played(gapped(), (-2, "hall"), way)), shape(LONG_STANDS[:many + 1]))
                self.assertEqual(shape(price_of(gapped(), (-2, "hall"), way)), shape(sum(LONG_PRICES[:many])))
                self.assertEqual(way, kind(LONG[:many]))

    def test_far_off(self):
        way = ["west", "yon", "down"]
        self.assertEqual(played(gapped(), (-FAR, "hall"), way),
                         [(-FAR, "hall"), (-FAR - 1, "loft"), (-FAR, "loft"), (-FAR, "hall")])
        self.assertEqual(price_of(gapped(), (-FAR, "hall"), way), 109)

    def test_many_steps(self):
        self.assertEqual(played(gapped(), (2, "pit"), ["on"] * 3000)[-1], (3002, "pit"))
        self.assertEqual(price_of(gapped(), (2, "pit"), ["on"] * 3000), 69000)

    def test_a_step_that_cannot_be_done_at_each_place(self):
        for at in range(len(LONG) + 1):
            house, room = LONG_STANDS[at]
            for wrong in step_names(gapped()) + ["", "East", "abcdefghi"]:
                why = Doors(gapped()).why_not(house, room, wrong)
                if why is not None:
                    for behind in ([], LONG[at:], ["nowhere"], [None]):
                        self.refused(gapped(), (-2, "hall"), LONG[:at] + [wrong] + behind, at, why)

    def test_each_why_at_the_first_a_middle_and_the_last_place(self):
        street = gapped()
        for way, at, why in (
                (["yon", "east"], 0, "room"), (["over", "east"], 0, "door"), (["EAST", "east"], 0, "form"),
                (["west", "down", "yon", "east"], 2, "room"), (["west", "up", "down"], 1, "door"),
                (["west", "", "down"], 1, "form"), (["east", "east", "east", "on"], 2, "goal"),
                (["east", "east", "up"], 2, "goal"), (["east", "over"], 1, "door")):
            self.refused(street, (-2, "hall"), way, at, why)
        self.refused(street, (0, "hall"), ["up"], 0, "goal")
        self.refused(street, (0, "hall"), ["east", "nowhere", 4], 0, "goal")

    def test_steps_that_are_no_names(self):
        for step in NO_NAMES + [thing for thing in things() if thing != "form"]:
            for at in (0, 3, len(LONG)):
                self.refused(gapped(), (-2, "hall"), LONG[:at] + [step] + LONG[at:], at, "form")

    def test_ways_by_chance(self):
        for seed in range(60):
            chance, street = random.Random(seed), chance_street(seed)
            doors, names = Doors(street), step_names(street)
            house = chance.choice(houses_about(street))
            stand = (house, chance.choice(doors.rooms(house)))
            way, stands, price = [], [stand], 0
            while len(way) < 30 and doors.there(*stands[-1]):
                name, (stand, cost) = chance.choice(doors.there(*stands[-1]))
                way, stands, price = way + [name], stands + [stand], price + cost
            self.assertEqual(played(street, stands[0], way), stands)
            self.assertEqual(price_of(street, stands[0], way), price)
            wrong = chance.choice(names)
            why = doors.why_not(*stands[-1], wrong)
            if why is not None:
                self.refused(street, stands[0], way + [wrong, "nowhere"], len(way), why)

    def test_a_told_list_changed_behind(self):
        street, way = gapped(), ["east", "east"]
        told = played(street, (-2, "hall"), way)
        told.append("spoilt")
        self.assertEqual(played(street, (-2, "hall"), way), LONG_STANDS[:3])
        self.assertEqual(way, ["east", "east"])
        self.assertIsNot(played(street, (-2, "hall"), way), played(street, (-2, "hall"), way))


class Texts(unittest.TestCase):

    def refused(self, text, row):
        told = told_or_why(read_way, text)
        self.assertEqual(shape(told), shape((NoText, {"row": row})), text)

    def test_written_and_read_again(self):
        for way, text in (((), ""), (("on",), "on"), (("on", "on"), "on, on"), (("a", "b", "c"), "a, b, c"),
                          (tuple(NAMES), ", ".join(NAMES)), (("go",) * 2000, ", ".join(["go"] * 2000))):
            for kind in (list, tuple):
                self.assertEqual(shape(show_way(kind(way))), shape(text))
            self.assertEqual(shape(read_way(text)), shape(way))

    def test_each_number_of_names(self):
        for many in range(5):
            for way in itertools.product(["a", "gate", "abcdefgh"], repeat=many):
                self.assertEqual(shape(read_way(show_way(way))), shape(way))

    def test_what_is_no_way(self):
        for text, row in (
                (" ", 0), (",", 0), (", ", 0), ("a,", 0), ("a, ", 1), (" a", 0), ("a ", 0), (", a", 0), (",a", 0),
                ("a,b", 0), ("a b", 0), ("a ,b", 0), ("a , b", 0), ("a,  b", 1), ("a,, b", 0), ("a, , b", 1),
                ("a, ,b", 1), ("a,\nb", 0), ("a\n", 0), ("\na", 0), ("\n", 0), ("a, b\n", 1), ("a, b,", 1),
                ("a, b, ", 2), ("a, b, c d, e", 2), ("abcdefghi", 0), ("a, abcdefghi", 1), ("a, b, abcdefghi, C", 2),
                ("A", 0), ("a, B, c", 1), ("a1", 0), ("a, b, 1", 2), ("a, b, c-d", 2), ("()", 0), ("a; b", 0),
                ("a, b,c, d", 1), ("a, b, c, d,e", 3), ("a. b", 0), ("a" * 8 + ", " + "b" * 9, 1), ("  ", 0)):
            with self.subTest(text):
                self.refused(text, row)

    def test_one_wrong_part_at_each_place(self):
        for many in range(1, 5):
            for at in range(many):
                for wrong in ("", " ", "A", "abcdefghi", "a b", "a\n", "1"):
                    parts = ["ab"] * many
                    parts[at] = wrong
                    if parts != [""]:
                        self.refused(", ".join(parts), at)

    def test_what_is_no_text(self):
        for thing in things() + [["a", "b"], ("a", "b"), ("a",), ["a"]]:
            if not isinstance(thing, str):
                before = copy.deepcopy(thing)
                self.refused(thing, 0)
                self.assertEqual(shape(thing), shape(before))


class Interface(unittest.TestCase):

    def test_each_is_defined_in_its_file(self):
        for asked, names in ((steps, "(street, other)"), (done, "(street, other, step)"),
                             (played, "(street, other, way)"), (price_of, "(street, other, way)"),
                             (show_way, "(way)"), (read_way, "(text)")):
            self.assertEqual(asked.__module__, ways.__name__)
            self.assertEqual(str(inspect.signature(asked)), names)

    def test_by_names(self):
        street = gapped()
        self.assertEqual(steps(other=(0, "hall"), street=street), ["over", "west"])
        self.assertEqual(done(step="over", other=(0, "hall"), street=street), ((1, "pit"), 2))
        self.assertEqual(played(way=["over"], other=(0, "hall"), street=street), [(0, "hall"), (1, "pit")])
        self.assertEqual(price_of(way=["over"], other=(0, "hall"), street=street), 2)
        self.assertEqual(show_way(way=["over"]), "over")
        self.assertEqual(read_way(text="over"), ("over",))


if __name__ == "__main__":
    unittest.main()
