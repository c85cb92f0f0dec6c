"""Ways in rows (points 16 to 18)."""

import copy
import inspect
import random
import re
import unittest

from likehouses import rows as module
from likehouses.errors import NoWay, TooMany
from likehouses.rows import is_rows, row_read, rows_gone, unrolled
from likehouses.streets import Sort, Street
from likehouses.ways import played, price_of
from tests.samples import (NAMES, NO_NAMES, Doors, any_things, chance_street, changed, houses_about, other_forms, shape,
                           things)

BIG = 10 ** 60
FAR = 123456789012345678901234567890
OUT = {"left": -1, "right": 1}


def is_name(thing):
    return type(thing) is str and re.fullmatch("[a-z]{1,8}", thing) is not None


def is_item(thing, numbers):
    if type(thing) is not tuple:
        return is_name(thing)
    return (len(thing) == 2 and type(thing[0]) is int and type(thing[1]) is int and thing[0] in numbers
            and 0 < thing[1] < BIG + 1)


def by_words(thing):
    """Whether a thing is a way in rows, by the words of point 16."""
    if type(thing) is not tuple or [type(part) for part in thing] != [list, list] or len(thing[0]) > 2000:
        return False
    for at, row in enumerate(thing[0]):
        if type(row) is not tuple or len(row) != 2 or row[0] not in ("left", "right") or type(row[1]) is not list:
            return False
        if not all(is_item(item, [k for k in range(at) if thing[0][k][0] == row[0]]) for item in row[1]):
            return False
    return all(is_item(item, range(len(thing[0]))) for item in thing[1])


def other_numbers(thing):
    if type(thing) is int:
        yield from (0, 1, 2, 3, 4, 5, 6, -1, -2, True, False, BIG, BIG + 1, 2 * BIG, None, str(thing), [thing], (thing,))


def other_words(thing):
    if type(thing) is str:
        yield from ("left", "right", "Right", "other", "", "abcdefghi", "rights", ["left"], ("right",), 0, None, True)
        yield from NO_NAMES


PLAIN = ([("right", ["go", "go"]), ("left", ["out"]), ("right", [(0, 3), "go", (0, BIG)]), ("left", [(1, 2), "in"]),
          ("right", []), ("left", [])],
         ["go", (0, 1), (5, 2), (3, BIG), "left"])


class IsRows(unittest.TestCase):

    def ask(self, thing, told):
        before = copy.deepcopy(thing)
        self.assertIs(is_rows(thing), told)
        self.assertEqual(shape(thing), shape(before))

    def test_what_is_one(self):
        for thing in (([], []), PLAIN, ([], ["go"]), ([("left", [])], []), ([("right", NAMES)], NAMES),
                      ([("left", ["a"]), ("left", [(0, 1)]), ("left", [(0, 1), (1, BIG)])], [(2, BIG), (0, 1)]),
                      ([("left", ["a"]), ("right", ["b"])], [(1, 1), (0, 1)])):
            self.ask(thing, True)

    def test_what_is_none(self):
        for thing in (
                [[], []], ([],), ([], [], []), ((), []), ([], ()), ({}, []), ([], {}), ([], "go"), ("", []), ([], None),
                ([["left", []]], []), ([("left",)], []), ([("left", [], [])], []), ([("left", ())], []),
                ([("left", "go")], []), ([("up", [])], []), ([(0, [])], []), ([None], []), ([("Left", [])], []),
                ([("left", ["Go"])], []), ([("left", ["abcdefghi"])], []), ([("left", [""])], []),
                ([("left", [["go"]])], []), ([("left", [("go",)])], []), ([("left", [None])], []),
                ([], ["Go"]), ([], ["abcdefghi"]), ([], [""]), ([], [3]), ([], [("go", 1)]), ([], [None])):
            self.ask(thing, False)

    def test_numbers_of_rows(self):
        sides = ["left", "right", "left", "right", "right"]
        for at, side in enumerate(sides):
            for number in range(-5, 8):
                rows = [(other, ["go"]) for other in sides]
                rows[at] = (side, [(number, 1)])
                self.ask((rows, []), 0 <= number < at and sides[number] == side)
                self.ask(([(other, ["go"]) for other in sides], ["go", (number, 1)]), 0 <= number < 5)
        self.ask(([], [(0, 1)]), False)

    def test_truths_for_numbers(self):
        rows = [("left", ["go"]), ("left", ["go"])]
        for truth in (True, False):
            self.ask((rows, [(truth, 1)]), False)
            self.ask((rows, [(1, truth)]), False)
            self.ask((rows + [("left", [(truth, 1)])], []), False)
            self.ask((rows + [("left", [(0, truth)])], []), False)

    def test_times(self):
        rows = [("left", ["go"])]
        for times, told in ((0, False), (1, True), (2, True), (BIG - 1, True), (BIG, True), (BIG + 1, False),
                            (-1, False), (-BIG, False), (10 ** 61, False), (10 ** 5000, False), ("1", False),
                            (None, False), ([1], False)):
            self.ask((rows, [(0, times)]), told)
            self.ask((rows + [("left", [(0, times)])], []), told)

    def test_two_thousand_rows_and_one_more(self):
        for many, told in ((1999, True), (2000, True), (2001, False), (5000, False)):
            self.ask(([("left", [])] * many, []), told)
            self.ask(([("right", ["a"])] + [("right", [(k, 1)]) for k in range(many - 1)], [(many - 1, 1)]), told)

    def test_one_thing_otherwise_at_each_place(self):
        self.ask(PLAIN, True)
        for change in (other_forms, other_numbers, other_words, any_things):
            for thing in changed(PLAIN, change):
                self.ask(thing, by_words(thing))

    def test_things_of_any_kind(self):
        for thing in things() + NO_NAMES + [(thing, thing) for thing in things()] + ["go", ["go"], ("go", "go")]:
            self.ask(thing, by_words(thing))

    def test_it_hangs_on_forms_and_numbers_alone(self):
        self.ask(([("right", ["nowhere"]), ("right", [(0, 7)])], ["noone", (1, 3), (0, 1)]), True)


class Stop(Exception):
    pass


def steps_of(rows, items):
    """The names of items, one by one, without any looking at how many they are."""
    for item in items:
        if isinstance(item, str):
            yield item
        else:
            for _ in range(item[1]):
                yield from steps_of(rows, rows[item[0]][1])


def slow_read(doors, side, rows, item, room):
    """A name or a part read step by step, in doors of a street of the side's sort alone: None, or as in 17."""
    if isinstance(item, str):
        told = dict(doors.there(0, room)).get(item)
        if told is None:
            return None
        (house, goal), price = told
        return goal, [0, house * OUT[side]], 1, price
    number, times = item
    first, shifts, steps, price = room, [0], 0, 0
    for _ in range(times):
        for part in rows[number][1]:
            read = slow_read(doors, side, rows, part, room)
            if read is None:
                return None
            room = read[0]
            shifts += [shifts[-1] + shift for shift in read[1]]
            steps, price = steps + read[2], price + read[3]
    return None if times > 1 and room != first else (room, shifts, steps, price)


def side_doors(street, side):
    sort = street.left() if side == "left" else street.right()
    return Doors(Street(sort, 0, [], sort))


def on_side(street, side, house):
    return house < street.first() if side == "left" else house >= street.first() + len(street)


def slow_gone(street, stand, thing):
    """A way in rows gone step by step: (stand, steps, price), or (at, why)."""
    doors, (rows, way), count, cost = Doors(street), thing, 0, 0
    for at, item in enumerate(way):
        house, room = stand
        if isinstance(item, str):
            why = doors.why_not(house, room, item)
            if why:
                return at, why
            stand, price = dict(doors.there(house, room))[item]
            steps = 1
        else:
            side = rows[item[0]][0]
            alone = side_doors(street, side)
            read = slow_read(alone, side, rows, item, room) if room in alone.rooms(0) else None
            if read is None:
                return at, "row"
            room, shifts, steps, price = read
            if not all(on_side(street, side, house + OUT[side] * shift) for shift in shifts):
                return at, "border"
            stand = (house + OUT[side] * shifts[-1], room)
        count, cost = count + steps, cost + price
    return stand, count, cost


def chance_rows(chance, street, many):
    """A way in rows by chance, most of its names those of doors that can be gone."""
    rows = []
    for _ in range(many):
        side = chance.choice(["left", "right"])
        doors = side_doors(street, side)
        room, items = chance.choice(doors.rooms(0)), []
        for _ in range(chance.randint(0, 4)):
            earlier = [k for k in range(len(rows)) if rows[k][0] == side]
            there = doors.there(0, room)
            if earlier and chance.random() < 0.5:
                item = (chance.choice(earlier), chance.choice([1, 1, 2, 3]))
                read = slow_read(doors, side, rows, item, room)
                if read is None and chance.random() < 0.7:
                    continue
                room = read[0] if read else room
            elif there:
                item, ((_, room), _) = chance.choice(there)
            else:
                item = "nowhere"
            items.append(item)
        rows.append((side, items))
    return rows


class Reading(unittest.TestCase):

    def setUp(self):
        self.right = Sort(["a", "b"], [("back", "b", 0, "a", 7), ("far", "b", 1, "b", 11), ("in", "a", -1, "a", 3),
                                       ("lost", "a", 1, "c", 1), ("near", "b", -1, "a", 13), ("out", "a", 1, "a", 2),
                                       ("swap", "a", 0, "b", 5)])
        self.left = Sort(["a", "c"], [("in", "a", 1, "a", 4), ("out", "a", -1, "a", 6), ("over", "a", 0, "c", 8),
                                      ("under", "c", -1, "a", 9)])
        self.street = Street(self.left, 0, [Sort(["c"], [("out", "c", 1, "a", 1)])], self.right)

    def read(self, rows, room, told, number=None):
        before = copy.deepcopy(rows)
        number = len(rows) - 1 if number is None else number
        self.assertEqual(shape(row_read(self.street, rows, number, room)), shape(told))
        self.assertEqual(shape(rows), shape(before))


class RowRead(Reading):

    def test_names(self):
        for items, room, told in (
                (["out"], "a", ("a", 1, 0, 1, 2)), (["in"], "a", ("a", -1, -1, 1, 3)), (["swap"], "a", ("b", 0, 0, 1, 5)),
                (["swap", "far", "near"], "a", ("a", 0, 0, 3, 29)), (["in", "out"], "a", ("a", 0, -1, 2, 5)),
                (["out", "in"], "a", ("a", 0, 0, 2, 5)), (["in", "in", "out", "out", "out"], "a", ("a", 1, -2, 5, 12)),
                (["out", "in", "in"], "a", ("a", -1, -1, 3, 8)), (["far", "far"], "b", ("b", 2, 0, 2, 22)),
                (["near", "swap", "near"], "b", ("a", -2, -2, 3, 31))):
            self.read([("right", items)], room, told)

    def test_the_left_side_is_turned(self):
        for items, room, told in (
                (["out"], "a", ("a", 1, 0, 1, 6)), (["in"], "a", ("a", -1, -1, 1, 4)),
                (["over", "under"], "a", ("a", 1, 0, 2, 17)), (["in", "in", "out"], "a", ("a", -1, -2, 3, 14)),
                (["under", "in", "in"], "c", ("a", -1, -1, 3, 17)), (["under", "over", "under"], "c", ("a", 2, 0, 3, 26))):
            self.read([("left", items)], room, told)

    def test_a_row_of_no_items(self):
        for side, rooms in (("right", "ab"), ("left", "ac")):
            for room in rooms:
                self.read([(side, [])], room, (room, 0, 0, 0, 0))
                self.read([(side, []), (side, [(0, BIG)]), (side, [(1, BIG), (0, 1)])], room, (room, 0, 0, 0, 0))

    def test_steps_that_cannot_be_done(self):
        for items, room in ((["nowhere"], "a"), (["swap"], "b"), (["far"], "a"), (["lost"], "a"), (["over"], "a"),
                            (["out", "lost", "out"], "a"), (["out", "out", "far"], "a"), (["swap", "swap"], "a")):
            self.read([("right", items)], room, None)
            self.read([("right", items), ("right", [(0, 1)])], room, None)
            self.read([("right", items), ("right", ["out", (0, 1), "out"])], room, None)
            self.read([("right", items), ("right", [(0, 2)])], room, None)

    def test_doors_are_those_of_the_sides_sort_alone(self):
        # The house next to the odd one is read like any other, and a goal that only another sort has is none.
        self.street = Street(self.left, 0, [Sort(["a", "b", "c"], [])], self.right)
        self.read([("right", ["in", "in", "in"])], "a", ("a", -3, -3, 3, 9))
        self.read([("right", ["lost"])], "a", None)

    def test_parts(self):
        rows = [("right", ["out", "out", "in"]), ("right", [(0, 1)]), ("right", [(0, 5), "swap"]),
                ("right", ["in", (2, 1), "back", (0, 2)])]
        self.read(rows, "a", ("a", 1, 0, 3, 7), number=0)
        self.read(rows, "a", ("a", 1, 0, 3, 7), number=1)
        self.read(rows, "a", ("b", 5, 0, 16, 40), number=2)
        self.read(rows, "a", ("a", 6, -1, 24, 64), number=3)
        for number in range(4):
            self.read(rows, "b", None, number=number)

    def test_a_row_ahead_is_read_from_unlike_rooms(self):
        rows = [("right", []), ("right", ["far"]), ("right", ["swap", (0, 3), (1, 2)])]
        self.read(rows, "a", ("b", 2, 0, 3, 27))
        self.read(rows, "b", None)
        self.read(rows, "b", ("b", 1, 0, 1, 11), number=1)

    def test_times_above_1_of_a_row_that_ends_in_another_room(self):
        # The doors x lead from a to b and y from b to a by one name's row each: twice in a row they can be gone.
        sort = Sort(["a", "b"], [("x", "a", 1, "b", 1), ("y", "b", 1, "a", 2)])
        self.street = Street(sort, 0, [], sort)
        for times in (2, 3, BIG):
            self.read([("right", ["x"]), ("right", [(0, times)])], "a", None)
            self.read([("right", ["x", "y"]), ("right", [(0, times)])], "a", ("a", 2 * times, 0, 2 * times, 3 * times))
            self.read([("right", ["x", "y"]), ("right", [(0, times)])], "b", None)
            self.read([("right", ["x", "y"]), ("right", ["x", "y", (0, times), "x"])], "a",
                      ("b", 2 * times + 3, 0, 2 * times + 3, 3 * times + 4))
        self.read([("right", ["x"]), ("right", [(0, 1)])], "a", ("b", 1, 0, 1, 1))
        self.read([("right", ["x"]), ("right", [(0, 1), "y", (0, 1), "y"])], "a", ("a", 4, 0, 4, 6))

    def test_near_of_a_part_many_times(self):
        rows = [("right", ["in", "out", "out"]), ("right", ["out", "in", "in"]), ("right", ["in", "out"])]
        for times in (1, 2, 3, 10, BIG):
            self.read(rows + [("right", [(0, times)])], "a", ("a", times, -1, 3 * times, 7 * times))
            self.read(rows + [("right", [(1, times)])], "a", ("a", -times, -times, 3 * times, 8 * times))
            self.read(rows + [("right", [(2, times)])], "a", ("a", 0, -1, 2 * times, 5 * times))
            self.read(rows + [("right", ["out", "out", (2, times)])], "a", ("a", 2, 0, 2 * times + 2, 5 * times + 4))
            self.read(rows + [("right", ["out"] * 5 + [(1, times)])], "a",
                      ("a", 5 - times, min(0, 5 - times), 3 * times + 5, 8 * times + 10))
            self.read(rows + [("right", [(1, times), (0, times)])], "a",
                      ("a", 0, -times - 1, 6 * times, 15 * times))

    def test_times_within_one_another(self):
        for side, price, back in (("right", 2, 3), ("left", 6, 4)):
            rows = [(side, ["out"])] + [(side, [(k, BIG)]) for k in range(10)]
            steps = BIG ** 10
            self.read(rows, "a", ("a", steps, 0, steps, price * steps))
            rows = [(side, ["in"])] + [(side, [(k, BIG), "in"]) for k in range(10)]
            steps = sum(BIG ** k for k in range(11))
            self.read(rows, "a", ("a", -steps, -steps, steps, back * steps))

    def test_two_thousand_rows(self):
        for side, price in (("right", 2), ("left", 6)):
            rows = [(side, ["out"])] + [(side, [(k, 1)]) for k in range(1999)]
            self.read(rows, "a", ("a", 1, 0, 1, price))
            rows = [(side, ["out"])] + [(side, [(k, 1), (k, 1)]) for k in range(1999)]
            self.read(rows, "a", ("a", 2 ** 1999, 0, 2 ** 1999, price * 2 ** 1999))

    def test_rows_behind_and_of_the_other_side_are_none_of_its_own(self):
        rows = [("left", ["nowhere"]), ("right", ["out"]), ("left", ["out"]), ("right", [(1, 2)]), ("right", ["nowhere"])]
        self.read(rows, "a", ("a", 2, 0, 2, 4), number=3)
        self.read(rows, "a", ("a", 1, 0, 1, 6), number=2)
        self.read(rows, "a", None, number=4)
        self.read(rows, "a", None, number=0)

    def test_against_reading_step_by_step(self):
        found = 0
        for seed in range(150):
            chance = random.Random(seed)
            self.street = chance_street(seed, rooms=3)
            rows = chance_rows(chance, self.street, 6)
            for number, (side, _) in enumerate(rows):
                doors = side_doors(self.street, side)
                for room in doors.rooms(0):
                    told = slow_read(doors, side, rows, (number, 1), room)
                    if told is not None:
                        found += 1
                        told = (told[0], told[1][-1], min(told[1]), told[2], told[3])
                    self.read(rows, room, told, number=number)
        self.assertGreater(found, 500)

    def test_a_room_of_a_class_made_from_texts_is_told_as_a_text(self):
        class Word(str):
            pass

        self.read([("right", [])], Word("a"), ("a", 0, 0, 0, 0))


class Going(Reading):

    def gone(self, stand, thing, told):
        """Told is what rows_gone tells, or (at, why) of a NoWay."""
        before = copy.deepcopy(thing)
        if len(told) == 2:
            for asked in (rows_gone, unrolled):
                self.refused(asked, (self.street, stand, thing), {}, {"at": told[0], "why": told[1]})
        else:
            self.assertEqual(shape(rows_gone(self.street, stand, thing)), shape(told))
        self.assertEqual(shape(thing), shape(before))

    def refused(self, asked, given, named, fields):
        with self.assertRaises(TooMany if "most" in fields else NoWay) as caught:
            asked(*given, **named)
        self.assertEqual(shape(vars(caught.exception)), shape(fields))

    def unrolls(self, stand, thing, way):
        """Unrolled, it is this way, and that is gone alike."""
        before = copy.deepcopy(thing)
        told = unrolled(self.street, stand, thing)
        self.assertEqual(shape(told), shape(tuple(way)))
        end = (played(self.street, stand, told)[-1], len(told), price_of(self.street, stand, told))
        self.assertEqual(shape(rows_gone(self.street, stand, thing)), shape(end))
        self.assertEqual(shape(thing), shape(before))


class RowsGone(Going):

    def test_no_item(self):
        for stand in ((0, "c"), (1, "a"), (-FAR, "c"), (FAR, "b")):
            for rows in ([], [("left", ["out"])]):
                self.gone(stand, (rows, []), (stand, 0, 0))

    def test_names(self):
        self.gone((0, "c"), ([], ["out", "swap", "far"]), ((2, "b"), 3, 17))
        self.gone((-1, "a"), ([], ["out", "over"]), ((-2, "c"), 2, 14))
        self.gone((10 ** 12 - 1, "a"), ([], ["out", "out"]), ((10 ** 12 + 1, "a"), 2, 4))
        self.gone((1 - 10 ** 12, "a"), ([], ["out"]), ((-10 ** 12, "a"), 1, 6))

    def test_names_and_parts_mixed(self):
        rows = [("right", ["out", "out", "in"]), ("left", ["out"]), ("right", [(0, 3)])]
        self.gone((0, "c"), (rows, ["out", (0, 5), "swap", "far"]), ((7, "b"), 18, 1 + 35 + 16))
        self.gone((0, "c"), (rows, ["out", (2, 5), (0, 1), "in"]), ((16, "a"), 50, 1 + 112 + 3))
        self.gone((-1, "a"), (rows, [(1, 9), "in", (1, 1)]), ((-10, "a"), 11, 54 + 4 + 6))

    def test_from_one_side_to_the_other(self):
        odd = Sort(["a"], [("in", "a", -1, "a", 50), ("out", "a", 1, "a", 60), ("up", "a", 0, "a", 70)])
        self.street = Street(self.left, -1, [odd, odd], self.right)
        rows = [("right", ["in"]), ("left", ["out", "out"]), ("left", ["in"]), ("right", [(0, 2)])]
        self.gone((9, "a"), (rows, [(3, 4), "in", "up", "in", "in", (1, 7)]), ((-16, "a"), 26, 8 * 3 + 3 + 70 + 100 + 84))
        self.gone((9, "a"), (rows, [(0, 9)]), (0, "border"))
        self.gone((9, "a"), (rows, [(0, 8), "in", (0, 1)]), (2, "border"))
        self.gone((-5, "a"), (rows, [(2, 3), "in", "out", "out", (2, 1)]), (4, "border"))

    def test_far_off(self):
        rows = [("right", ["out"]), ("right", [(0, BIG)]), ("left", ["out"]), ("left", [(2, BIG)]), ("left", ["in"])]
        self.gone((1, "a"), (rows, [(1, BIG)]), ((1 + BIG ** 2, "a"), BIG ** 2, 2 * BIG ** 2))
        self.gone((1, "a"), (rows, [(1, BIG), "swap", "far", "near", "in"]),
                  ((BIG ** 2, "a"), BIG ** 2 + 4, 2 * BIG ** 2 + 32))
        self.gone((-1, "a"), (rows, [(3, BIG), "over"]), ((-1 - BIG ** 2, "c"), BIG ** 2 + 1, 6 * BIG ** 2 + 8))
        self.gone((-1, "a"), (rows, [(3, 1), (4, BIG)]), ((-1, "a"), 2 * BIG, 10 * BIG))
        self.gone((-1, "a"), (rows, [(3, 1), "in", (4, BIG)]), (2, "border"))
        self.gone((-FAR, "a"), (rows, [(4, FAR - 1)]), ((-1, "a"), FAR - 1, 4 * FAR - 4))
        self.gone((-FAR, "a"), (rows, [(4, FAR)]), (0, "border"))

    def test_each_why_of_a_name(self):
        rows = [("right", ["out"])]
        for stand, name, why in (((0, "c"), "nowhere", "door"), ((0, "c"), "in", "door"), ((1, "b"), "out", "room"),
                                 ((1, "a"), "in", "goal"), ((1, "a"), "lost", "goal"), ((-1, "a"), "in", "goal")):
            self.gone(stand, (rows, [name]), (0, why))
            self.gone(stand, (rows, [name, "nowhere", (0, 1)]), (0, why))
        self.gone((5, "a"), (rows, [(0, 4), "swap", (0, 1)]), (2, "row"))
        self.gone((5, "a"), (rows, [(0, 4), "swap", "out"]), (2, "room"))
        self.gone((5, "a"), (rows, [(0, 4), "in", "over"]), (2, "door"))

    def test_row(self):
        rows = [("right", ["out"]), ("right", ["swap"]), ("left", ["over"]), ("right", ["nowhere"]), ("right", [(3, 1)]),
                ("left", []), ("right", ["out", "swap"])]
        # The room is none of the side's sort.
        for stand, number in (((5, "b"), 2), ((5, "b"), 5), ((-5, "c"), 0), ((0, "c"), 0)):
            self.gone(stand, (rows, [(number, 1)]), (0, "row"))
            self.gone(stand, (rows, [(number, BIG)]), (0, "row"))
        # It can't be read from the room.
        for stand, number in (((5, "b"), 0), ((5, "b"), 1), ((5, "a"), 3), ((5, "a"), 4), ((-5, "c"), 2)):
            self.gone(stand, (rows, [(number, 1)]), (0, "row"))
        # More than once it can't be read, once it can.
        for stand, number, told in (((5, "a"), 1, ((5, "b"), 1, 5)), ((-5, "a"), 2, ((-5, "c"), 1, 8)),
                                    ((5, "a"), 6, ((6, "b"), 2, 7))):
            self.gone(stand, (rows, [(number, 1)]), told)
            for times in (2, 3, BIG):
                self.gone(stand, (rows, [(number, times)]), (0, "row"))
        self.gone((5, "a"), (rows, ["out", (0, 2), (6, 1), (6, 1), "nowhere"]), (3, "row"))

    def test_row_ahead_of_border(self):
        rows = [("right", ["nowhere"]), ("left", ["nowhere"]), ("right", []), ("left", []), ("right", ["in", "swap"]),
                ("right", ["in"] * 9 + ["far"])]
        self.gone((0, "c"), (rows, [(0, 1)]), (0, "row"))
        self.gone((0, "c"), (rows, [(2, 1)]), (0, "row"))
        self.gone((0, "c"), (rows, [(1, 1)]), (0, "row"))
        self.gone((0, "c"), (rows, [(3, 1)]), (0, "border"))
        self.gone((-3, "a"), (rows, [(0, 1)]), (0, "row"))
        self.gone((-3, "a"), (rows, [(2, 1)]), (0, "border"))
        self.gone((-3, "a"), (rows, [(2, BIG)]), (0, "border"))
        self.gone((3, "a"), (rows, [(1, 1)]), (0, "row"))
        self.gone((3, "a"), (rows, [(3, 1)]), (0, "border"))
        self.gone((1, "a"), (rows, [(4, 1)]), (0, "border"))
        self.gone((1, "a"), (rows, [(4, 2)]), (0, "row"))
        self.gone((1, "a"), (rows, [(5, 1)]), (0, "row"))

    def test_just_to_the_nearest_house_and_a_house_nearer(self):
        for many in (0, 1, 2, 8):
            for first in (-50, -1, 0, 7, 50):
                odd = Sort(["a", "c"], [("out", "a", 1, "a", 1), ("in", "a", -1, "a", 1)])
                self.street = Street(self.left, first, [odd] * many, self.right)
                for side, near, price in (("right", first + many, 3), ("left", first - 1, 4)):
                    rows = [(side, ["in"]), (side, ["in", "in", "out", "out", "out"]), (side, [])]
                    out = OUT[side]
                    for times in (1, 2, 5):
                        stand = (near + out * times, "a")
                        self.gone(stand, (rows, [(0, times)]), ((near, "a"), times, price * times))
                        self.gone((stand[0] - out, "a"), (rows, [(0, times)]), (0, "border"))
                        far = (near + out * (times + 2), "a")
                        told = rows_gone(self.street, (near + out * 2, "a"), (rows, [(1, times)]))
                        self.assertEqual((told[0], told[1]), (far, 5 * times))
                        self.gone((near + out, "a"), (rows, [(1, times)]), (0, "border"))
                    self.gone((near, "a"), (rows, [(2, 5)]), ((near, "a"), 0, 0))
                    self.gone((near - out, "a"), (rows, [(2, 5)]), (0, "border"))

    def test_an_odd_house_of_the_sides_sort_is_none_of_the_side(self):
        self.street = Street(self.left, 0, [self.left, self.right], self.right)
        rows = [("right", ["in"]), ("left", ["in"]), ("right", []), ("left", [])]
        self.gone((3, "a"), (rows, [(0, 1)]), ((2, "a"), 1, 3))
        self.gone((2, "a"), (rows, [(0, 1)]), (0, "border"))
        self.gone((1, "a"), (rows, [(2, 1)]), (0, "border"))
        self.gone((-2, "a"), (rows, [(1, 1)]), ((-1, "a"), 1, 4))
        self.gone((-1, "a"), (rows, [(1, 1)]), (0, "border"))
        self.gone((0, "a"), (rows, [(3, 1)]), (0, "border"))

    def test_two_thousand_rows(self):
        rows = [("right", ["out"])] + [("right", [(k, 1)]) for k in range(1999)]
        self.gone((1, "a"), (rows, [(1999, BIG)] * 2000), ((1 + 2000 * BIG, "a"), 2000 * BIG, 4000 * BIG))
        rows = [("right", ["out"])] + [("right", [(k, 2)]) for k in range(1999)]
        self.gone((1, "a"), (rows, [(1999, 1)]), ((1 + 2 ** 1999, "a"), 2 ** 1999, 2 ** 2000))

    def test_against_going_step_by_step(self):
        found = set()
        for seed in range(400):
            chance = random.Random(seed)
            self.street = chance_street(seed, rooms=3)
            doors = Doors(self.street)
            rows = chance_rows(chance, self.street, 6)
            house = chance.choice(houses_about(self.street))
            stand = (house, chance.choice(doors.rooms(house)))
            way = []
            for _ in range(6):
                told = slow_gone(self.street, stand, (rows, way))
                self.gone(stand, (rows, way), told)
                found.add(told[1] if len(told) == 2 else len(way))
                if len(told) == 2:
                    break
                there = [name for name, _ in doors.there(*told[0])]
                way = way + [chance.choice([(chance.randrange(6), chance.randint(1, 3)), "da"] + there + there)]
        self.assertLessEqual({"door", "room", "goal", "row", "border", 0, 1, 2, 3, 4, 5}, found)

    def test_what_is_told_is_of_just_the_kinds(self):
        class Number(int):
            pass

        class Word(str):
            pass

        self.assertEqual(shape(rows_gone(self.street, (Number(4), Word("a")), ([], []))), shape(((4, "a"), 0, 0)))
        self.assertEqual(shape(unrolled(self.street, (4, "a"), ([], [Word("out")]))), shape(("out",)))


class Unrolled(Going):

    def test_names_and_parts(self):
        rows = [("right", ["out", "out", "in"]), ("left", ["out"]), ("right", [(0, 3), "swap", "back"]), ("right", [])]
        for stand, way, told in (
                ((0, "c"), [], []), ((0, "c"), ["out"], ["out"]), ((1, "a"), [(0, 1)], rows[0][1]),
                ((0, "c"), ["out", (0, 2), "swap"], ["out"] + rows[0][1] * 2 + ["swap"]),
                ((1, "a"), [(2, 2), (3, 5), "out"], (rows[0][1] * 3 + ["swap", "back"]) * 2 + ["out"]),
                ((-1, "a"), [(1, 5), "in"], ["out"] * 5 + ["in"]), ((1, "a"), [(3, 9)], [])):
            self.unrolls(stand, (rows, way), told)

    def test_the_order_of_steps(self):
        rows = [("right", ["out", "in", "swap", "back"]), ("right", ["swap", "far", "near", (0, 2), "out"]),
                ("right", ["out", (1, 1), "out", "out", (0, 1), (1, 2)])]
        for way in ([(2, 1)], ["out", (2, 3), "in", (0, 2)], [(0, 1), (1, 1), (2, 1)]):
            self.unrolls((1, "a"), (rows, way), steps_of(rows, way))

    def test_most(self):
        rows = [("right", ["out"]), ("right", [(0, 3), "in"])]
        thing = (rows, [(1, 5), "swap"])
        way = tuple(["out", "out", "out", "in"] * 5 + ["swap"])
        for most in (21, 22, 2000, BIG):
            self.assertEqual(shape(unrolled(self.street, (1, "a"), thing, most=most)), shape(way))
        for most in (20, 19, 1, 0):
            self.refused(unrolled, (self.street, (1, "a"), thing), {"most": most}, {"most": most})
        self.assertEqual(unrolled(self.street, (1, "a"), (rows, []), most=0), ())
        self.refused(unrolled, (self.street, (1, "a"), (rows, ["out"])), {"most": 0}, {"most": 0})

    def test_most_left_out(self):
        rows = [("right", ["out"]), ("right", [(0, 1000)])]
        for way in ([(0, 2000)], [(1, 2)], ["out", (0, 999), (1, 1)]):
            self.unrolls((1, "a"), (rows, way), ["out"] * 2000)
            for more in (way + ["out"], ["out"] + way, way + [(0, 1)], way + [(1, BIG)]):
                self.refused(unrolled, (self.street, (1, "a"), (rows, more)), {}, {"most": 2000})
        self.assertEqual(len(unrolled(self.street, (1, "a"), (rows, [(0, 2001)]), most=2001)), 2001)

    def test_far_too_many(self):
        rows = [("right", ["out"])] + [("right", [(k, BIG)]) for k in range(10)]
        for most in (0, 1, 2000, BIG, BIG ** 10 - 1):
            self.refused(unrolled, (self.street, (1, "a"), (rows, [(10, 1)])), {"most": most}, {"most": most})

    def test_parts_without_steps_are_passed_by(self):
        rows = [("right", []), ("right", [(0, BIG), (0, BIG)]), ("right", [(1, BIG)]), ("right", [(2, BIG), "out", (1, BIG)])]
        self.unrolls((1, "a"), (rows, [(0, BIG), (1, BIG), (2, BIG)]), [])
        self.unrolls((1, "a"), (rows, [(0, BIG), "out", (2, BIG), (3, 2), (1, BIG), "in"]), ["out", "out", "out", "in"])
        self.assertEqual(unrolled(self.street, (1, "a"), (rows, [(2, BIG)] * 1000), most=0), ())

    def test_no_way_ahead_of_too_many(self):
        rows = [("right", ["out"]), ("right", ["swap"])]
        for way, at, why in (([(0, BIG), "nowhere"], 1, "door"), ([(0, BIG), (1, 2)], 1, "row"), (["in"], 0, "goal"),
                             ([(0, BIG), "in", "back"], 2, "room")):
            for most in (0, 1, 2000):
                self.refused(unrolled, (self.street, (1, "a"), (rows, way)), {"most": most}, {"at": at, "why": why})
        self.refused(unrolled, (self.street, (0, "c"), (rows, [(0, BIG)])), {"most": 0}, {"at": 0, "why": "row"})
        self.refused(unrolled, (self.street, (-1, "a"), (rows, [(0, BIG)])), {"most": 0}, {"at": 0, "why": "border"})

    def test_two_thousand_rows(self):
        rows = [("right", ["out"])] + [("right", [(k, 1)]) for k in range(1999)]
        self.unrolls((1, "a"), (rows, [(1999, 1)]), ["out"])
        self.unrolls((1, "a"), (rows, [(1999, 2000)]), ["out"] * 2000)
        self.unrolls((1, "a"), (rows, [(1999, 1)] * 2000), ["out"] * 2000)
        rows = [("right", [])] + [("right", [(k, BIG)]) for k in range(1999)]
        self.unrolls((1, "a"), (rows, [(1999, BIG)] * 2000), [])

    def test_against_going_step_by_step(self):
        for seed in range(200):
            chance = random.Random(seed)
            self.street = chance_street(seed, rooms=2, most_odd=2)
            doors = Doors(self.street)
            rows = chance_rows(chance, self.street, 5)
            house = chance.choice(houses_about(self.street))
            stand = (house, chance.choice(doors.rooms(house)))
            way = [(chance.randrange(5), chance.randint(1, 3)) for _ in range(2)]
            if len(slow_gone(self.street, stand, (rows, way))) == 3:
                self.unrolls(stand, (rows, way), steps_of(rows, way))


class Interface(unittest.TestCase):

    def test_each_is_defined_in_its_file(self):
        for asked, names in ((is_rows, "(thing)"), (row_read, "(street, rows, number, room)"),
                             (rows_gone, "(street, other, thing)"),
                             (unrolled, "(street, other, thing, *, most=2000)")):
            self.assertEqual(asked.__module__, module.__name__)
            self.assertEqual(str(inspect.signature(asked)), names)

    def test_by_names(self):
        sort = Sort(["a"], [("out", "a", 1, "a", 2)])
        street, rows = Street(sort, 0, [], sort), [("right", ["out"])]
        self.assertIs(is_rows(thing=(rows, [])), True)
        self.assertEqual(row_read(room="a", number=0, rows=rows, street=street), ("a", 1, 0, 1, 2))
        self.assertEqual(rows_gone(thing=(rows, [(0, 3)]), other=(0, "a"), street=street), ((3, "a"), 3, 6))
        self.assertEqual(unrolled(thing=(rows, [(0, 1)]), other=(0, "a"), street=street, most=1), ("out",))
        with self.assertRaises(TypeError):
            unrolled(street, (0, "a"), (rows, []), 5)


if __name__ == "__main__":
    unittest.main()
