"""Texts of walks (point 41)."""

import inspect
import random
import re
import unittest

from likehouses import journals
from likehouses.errors import NoText, TooFar, TooMany
from likehouses.journals import read_walk, show_walk
from likehouses.rows import is_rows
from likehouses.streets import Sort, Street, places_of
from likehouses.streettexts import read_street, show_street
from likehouses.telling import way_to
from likehouses.walk import Walk
from likehouses.ways import steps
from tests.samples import alike, linked_street, odd_street, shape, small, things

BIG = 10 ** 60
FAR = 10 ** 12 - 1
ONE = Sort(["a"], [("in", "a", -1, "a", 1), ("out", "a", 1, "a", 2)])
TWO = Sort(["a", "b"], [("in", "a", -1, "a", 1), ("out", "a", 1, "a", 2), ("up", "a", 0, "b", 5), ("down", "b", 0, "a", 7)])
LEAP = ([("right", ["out"]), ("right", [(0, 3), "in"]), ("left", ["in"]), ("left", [])], ["out", "out", "out", (1, 2), "in", (1, 1)])
NUMBER = "(0|[1-9][0-9]*)"


def road():
    return Street(ONE, 0, [TWO, TWO], ONE)


def every_act():
    """A walk with an act of every kind."""
    walk = Walk(road(), (-2, "a"))
    walk.do("out"), walk.do("out"), walk.do("up"), walk.wall("left", "in"), walk.do("down"), walk.wall(1, "up"), walk.out("left")
    walk.out("right"), walk.leap(LEAP), walk.wall(2, "in"), walk.leap(([], [])), walk.wall("right", "in"), walk.leap(([("left", [])], []))
    return walk


TEXT = """first 0
house left
room a
door in a -1 a 1
door out a 1 a 2
house odd
room a
room b
door down b 0 a 7
door in a -1 a 1
door out a 1 a 2
door up a 0 b 5
house odd
room a
room b
door down b 0 a 7
door in a -1 a 1
door out a 1 a 2
door up a 0 b 5
house right
room a
door in a -1 a 1
door out a 1 a 2
at -2 a
do out
do out
do up
wall left in
do down
wall 1 up
out left
out right
leap 4
row right out
row right 0*3 in
row left in
row left
way out out out 1*2 in 1*1
wall 2 in
leap 0
way
wall right in
leap 1
row left
way"""


def item(word, sides, side):
    """The item that a word is, None where it is none."""
    if re.fullmatch("[a-z]{1,8}", word):
        return word
    part = re.fullmatch(NUMBER + r"\*([1-9][0-9]*)", word)
    if not part or len(part[1]) > 4 or int(part[1]) >= len(sides) or len(part[2]) > 61 or int(part[2]) > BIG:
        return None
    return (int(part[1]), int(part[2])) if side in (None, sides[int(part[1])]) else None


def leap_of(rows, at, many):
    """The way in rows told by the rows behind a leap: it, and the place behind it; or None, and the first wrong place."""
    told = []
    for _ in range(many):
        if at == len(rows) or not re.match(r"row (left|right)( |\Z)", rows[at]):
            return None, at
        side, *words = rows[at].split(" ")[1:]
        listed = [item(word, [one for one, _ in told], side) for word in words]
        if None in listed:
            return None, at
        told.append((side, listed))
        at += 1
    if at == len(rows) or not re.match(r"way( |\Z)", rows[at]):
        return None, at
    listed = [item(word, [one for one, _ in told], None) for word in rows[at].split(" ")[1:]]
    return (None, at) if None in listed else ((told, listed), at + 1)


def first_wrong(text):
    """The first row that isn't as in any walk's text that begins with those ahead of it; None in a walk's text."""
    rows = text.split("\n")
    ends = [k for k, row in enumerate(rows) if row.split(" ")[0] == "at"] + [len(rows)]
    at = ends[0]
    if at == 0:
        return 0
    try:
        street = read_street("\n".join(rows[:at]))
    except NoText as refusal:
        return refusal.row
    place = at < len(rows) and re.fullmatch("at (-?)" + NUMBER + " ([a-z]{1,8})", rows[at])
    if not place or rows[at].startswith("at -0") or len(place[2]) > 2 or int(place[2]) > 60:
        return at
    stand = (int(place[1] + place[2]), place[3])
    if stand[1] not in street.sort_at(stand[0]).rooms():
        return at
    walk, at = Walk(street, stand), at + 1
    while at < len(rows):
        words = rows[at].split(" ")
        try:
            if re.fullmatch("leap " + NUMBER, rows[at]) and len(words[1]) < 5 and int(words[1]) <= 2000:
                way, at = leap_of(rows, at + 1, int(words[1]))
                if way is None:
                    return at
                at -= 1
                walk.leap(way)
            elif words[0] == "do" and len(words) == 2:
                walk.do(words[1])
            elif words[0] == "wall" and len(words) == 3:
                walk.wall({str(place): place for place in places_of(walk.street_at())}[words[1]], words[2])
            elif rows[at] in ("out left", "out right"):
                walk.out(words[1])
            else:
                return at
        except (ValueError, KeyError, TooFar, TooMany):
            return at
        at += 1
    return None


def walks():
    """Walks by chance."""
    for seed in range(30):
        chance = random.Random(seed)
        street = linked_street(seed, most_odd=4)
        house = max(-60, min(60, street.first() + chance.randint(-2, 6)))
        walk = Walk(street, (house, chance.choice(street.sort_at(house).rooms())))
        for _ in range(chance.randint(0, 9)):
            now, there = walk.street_at(), steps(walk.street_at(), walk.stand_at())
            kind = chance.random()
            if kind < 0.5 and there:
                walk.do(chance.choice(there))
            elif kind < 0.7:
                place = chance.choice(places_of(now))
                doors = now.sort_at({"left": -99, "right": 99}.get(place, place)).doors()
                if doors:
                    walk.wall(place, chance.choice(doors)[0])
            elif kind < 0.8 and len(now) < 8 and now.first() > -50:
                walk.out(chance.choice(["left", "right"]))
            elif abs(walk.stand_at()[0]) <= 60:
                way = way_to(now, walk.stand_at(), (chance.choice([70, -70, 3]), now.left().rooms()[0]))
                if way is not None:
                    walk.leap(way[1])
        yield walk


class Asked(unittest.TestCase):

    def refuse(self, text, row):
        with self.assertRaises(NoText) as caught:
            read_walk(text)
        self.assertEqual(shape(vars(caught.exception)), shape({"row": row}))

    def ask(self, text):
        """Looks whether a text is read, or refused, as the words say."""
        wrong = first_wrong(text)
        if wrong is None:
            self.assertEqual(show_walk(read_walk(text)), text)
        else:
            self.refuse(text, wrong)
        return wrong


class WrittenAndRead(Asked):

    def test_the_text(self):
        self.assertEqual(shape(show_walk(every_act())), shape(TEXT))

    def test_read_again(self):
        for walk in [every_act(), Walk(road(), (0, "a")), Walk(odd_street(-50, 8), (-60, "cave")), Walk(alike(ONE), (60, "a")), *walks()]:
            text = show_walk(walk)
            again = read_walk(text)
            self.assertIs(type(again), Walk)
            self.assertTrue(again == walk)
            self.assertEqual(shape(again.acts()), shape(walk.acts()))
            self.assertEqual(show_walk(again), text)
            self.assertIsNone(first_wrong(text))
            for moment in range(len(walk.acts()) + 1):
                self.assertEqual((again.street_at(moment=moment), again.stand_at(moment=moment), again.steps_at(moment=moment),
                                  again.price_at(moment=moment)),
                                 (walk.street_at(moment=moment), walk.stand_at(moment=moment), walk.steps_at(moment=moment),
                                  walk.price_at(moment=moment)))

    def test_no_act(self):
        text = show_street(road()) + "\nat 0 b"
        self.assertEqual(show_walk(Walk(road(), (0, "b"))), text)
        self.assertTrue(read_walk(text) == Walk(road(), (0, "b")))

    def test_what_was_taken_back_is_not_written(self):
        walk = Walk(road(), (0, "a"))
        before = show_walk(walk)
        walk.do("out"), walk.out("left")
        walk.back(), walk.back()
        self.assertEqual(show_walk(walk), before)
        again = read_walk(before)
        with self.assertRaises(LookupError):
            again.on()

    def test_the_first_street_is_written(self):
        walk = Walk(road(), (0, "a"))
        walk.out("left"), walk.wall(0, "up"), walk.do("out")
        self.assertEqual(show_walk(walk), show_street(road()) + "\nat 0 a\nout left\nwall 0 up\ndo out")

    def test_leaps(self):
        many = [("right", ["out"])] + [("right", [(k, 1), (k, 1)]) for k in range(35)] + [("left", [])] * 1964
        for way in (([], []), ([("left", [])], []), ([("right", ["out"]), ("left", ["in"])], [(0, 5)]), (many, [(35, 1), (34, 2), "in"]),
                    ([("right", ["out", "in"])], [(0, BIG)]), ([("left", ["nowhere"]), ("left", [(0, BIG)])], ["out"])):
            self.assertTrue(is_rows(way))
            walk = Walk(road(), (3, "a"))
            walk.leap(way)
            text = show_walk(walk)
            self.assertTrue(read_walk(text) == walk)
            self.assertEqual(shape(read_walk(text).acts()), shape([("leap", way)]))
            self.assertEqual(text.split("\n")[24], f"leap {len(way[0])}")
            self.assertEqual(len(text.split("\n")), 24 + 2 + len(way[0]))
        self.assertTrue(show_walk(walk).endswith("\nleap 2\nrow left nowhere\nrow left 0*1" + "0" * 60 + "\nway out"))

    def test_far_acts(self):
        walk = Walk(alike(ONE), (60, "a"))
        walk.leap(([("right", ["out"])], [(0, FAR - 60)]))
        walk.wall("right", "in")
        text = show_walk(walk)
        self.assertTrue(read_walk(text) == walk)
        rows = len(text.split("\n"))
        self.refuse(text + "\ndo out", rows)
        self.refuse(text + "\ndo in", rows)
        self.refuse(text + "\nleap 0\nway out", rows + 1)
        self.refuse(text + f"\nleap 1\nrow right out\nway 0*{BIG}", rows + 2)
        self.assertEqual(len(read_walk(text + f"\nleap 1\nrow right out\nway").acts()), 3)


class Refused(Asked):

    def test_each_row_out_twice_and_exchanged(self):
        rows = TEXT.split("\n")
        for k in range(len(rows)):
            self.ask("\n".join(rows[:k] + rows[k + 1:]))
            self.ask("\n".join(rows[:k] + rows[k:k + 1] + rows[k:]))
            self.ask("\n".join(rows[:k] + [""] + rows[k:]))
            if k:
                self.ask("\n".join(rows[:k - 1] + [rows[k], rows[k - 1]] + rows[k + 1:]))

    def test_each_text_that_ends_earlier(self):
        rows = TEXT.split("\n")
        whole = 0
        for k in range(1, len(rows) + 1):
            wrong = self.ask("\n".join(rows[:k]))
            self.assertIn(wrong, (None, k))
            whole += wrong is None
        # Behind the row of the stand, and behind each act that is whole.
        self.assertEqual(whole, 14)
        self.refuse("\n".join(rows) + "\n", len(rows))
        self.refuse("", 0)
        self.refuse("\n", 0)

    def test_each_sign_exchanged_out_and_more(self):
        for k in range(len(TEXT)):
            for sign in ("", " ", "\n", "a", "b", "z", "0", "1", "3", "-", "*", "A"):
                self.ask(TEXT[:k] + sign + TEXT[k + 1:])
                if sign:
                    self.ask(TEXT[:k] + sign + TEXT[k:])

    def test_each_row_otherwise(self):
        rows = TEXT.split("\n")
        others = ["do out", "do in", "do up", "do down", "do nowhere", "do", "do Out", "do out out", "out left", "out right", "out", "out up",
                  "out left right", "wall left in", "wall left out", "wall right in", "wall 0 up", "wall 0 nowhere", "wall 9 in", "wall -1 in", "wall",
                  "wall left", "wall left in in", "wall None in", "leap 0", "leap 1", "leap", "leap -1", "leap 00", "leap 01", "leap 2000", "leap 2001",
                  "leap one", "leap 1 1", "way", "way in", "way out", "way 0*1", "row left", "row right", "row", "row up", "row left in", "row right 0*1",
                  "at 0 a", "at -2 a", "go", "house right", "room a", "first 0", "", " "]
        for k in range(len(rows)):
            for other in others:
                self.ask("\n".join(rows[:k] + [other] + rows[k + 1:]))
                self.ask("\n".join(rows[:k] + [other] + rows[k:]))

    def test_the_stand(self):
        begin = show_street(road()) + "\n"
        for row, told in (("at 0 a", True), ("at 0 b", True), ("at 1 b", True), ("at 2 b", False), ("at -1 b", False), ("at 60 a", True),
                          ("at -60 a", True), ("at 61 a", False), ("at -61 a", False), ("at -0 a", False), ("at 00 a", False), ("at 01 a", False),
                          ("at +1 a", False), ("at 0 c", False), ("at 0", False), ("at", False), ("at  0 a", False), ("at 0 a ", False), (" at 0 a", False),
                          ("at 0  a", False), ("at a 0", False), ("at 0 a b", False), ("At 0 a", False), ("at 0 A", False), ("at - a", False),
                          ("at 1000000000000 a", False), ("at " + "1" * 5000 + " a", False), ("at 0 ", False)):
            self.assertEqual(self.ask(begin + row), None if told else 23)
        self.refuse(show_street(road()), 23)
        self.refuse("at 0 a", 0)
        self.refuse("at 0 a\n" + show_street(road()), 0)
        self.refuse(show_street(road()) + "\nat 0 a\nat 0 a", 24)
        self.refuse(show_street(road()) + "\nat 0 a\n" + show_street(road()), 24)

    def test_a_street_without_its_right_house(self):
        rows = show_street(road()).split("\n")
        self.refuse("\n".join(rows[:19] + ["at 0 a"]), 19)
        self.refuse("\n".join(rows[:20] + ["at 0 a"]), 20)
        self.assertIsNone(self.ask("\n".join(rows[:21] + ["at 0 a"])))

    def test_parts(self):
        begin = show_street(alike(ONE)) + "\nat 3 a\nleap 4\nrow right out in\nrow left in out\n"
        for row, told in (("row right 0*1", True), ("row left 1*1", True), ("row right 1*1", False), ("row left 0*1", False), ("row right 2*1", False),
                          ("row right 0*0", False), (f"row right 0*{BIG}", True), (f"row right 0*{BIG + 1}", False), (f"row right 0*{BIG * 10}", False),
                          ("row right 0*01", False), ("row right 00*1", False), ("row right -0*1", False), ("row right 0*-1", False),
                          ("row right 0*1*1", False), ("row right 0*", False), ("row right *1", False), ("row right *", False), ("row right 0", False),
                          ("row right 0 * 1", False), ("row right 0* 1", False), ("row right out*2", False), ("row right 0*out", False),
                          ("row right 0*1 0*1 out", True), ("row right 0*1  out", False), ("row right ", False), ("row right", True), ("row left", True),
                          ("row  left", False), ("row", False), ("row right abcdefghi", False), ("row right Out", False), ("row right nowhere", True),
                          ("row right 0*" + "1" * 5000, False), ("row right " + "1" * 5000 + "*1", False), ("row right left", True), ("row right right", True),
                          ("way", False), ("way out", False), ("row right 3*1", False)):
            text = begin + row + "\nrow left\nway"
            self.assertEqual(self.ask(text), None if told else 13, row)

    def test_ways(self):
        begin = show_street(alike(ONE)) + "\nat 3 a\nleap 2\nrow right out in\nrow left in out\n"
        for row, told in (("way", True), ("way ", False), ("way out", True), ("way 0*1", True), ("way 1*1", False), ("way 2*1", False), ("way 0*0", False),
                          (f"way 0*{BIG}", True), (f"way 0*{BIG + 1}", False), ("way nowhere", False), ("way out out in in 0*7", True), ("Way", False),
                          ("way in in in 1*1", False), ("way in in in in 1*1 out out out out 0*2", True), ("row left", False), ("row right out", False),
                          ("way in in in in in 1*1", True), ("way out  out", False), ("way 0*1 out", True), ("way 00*1", False), ("way 0*01", False),
                          ("do out", False), ("", False)):
            # House -1 is the left side's nearest.
            wrong = self.ask(begin + row)
            self.assertEqual(wrong, first_wrong(begin + row))
            if told != (wrong is None):
                self.fail(row)

    def test_many_unlike_the_rows_behind(self):
        begin = show_street(alike(ONE)) + "\nat 3 a\n"
        for many in range(5):
            for rows in range(5):
                text = begin + "\n".join([f"leap {many}"] + ["row left"] * rows + ["way"])
                self.assertEqual(self.ask(text), None if many == rows else 11 + min(many, rows))
                self.assertEqual(self.ask("\n".join(text.split("\n")[:-1])), 11 + min(many, rows))
        for many, told in ((2000, True), (2001, False), (99999, False)):
            text = begin + "\n".join([f"leap {many}"] + ["row left"] * many + ["way"])
            if told:
                self.assertEqual(len(read_walk(text).acts()[0][1][0]), many)
            else:
                self.refuse(text, 10)

    def test_acts_that_cannot_be_done(self):
        begin = show_street(Street(small(), -50, [ONE] * 8, ONE)).split("\n") + ["at -50 a"]
        for rows, wrong in ((["do in"], 0), (["do out"], None), (["out left"], 0), (["out right"], 0), (["wall left in"], 0), (["wall -51 in"], 0),
                            (["wall -50 in", "do out", "do in", "wall -50 in"], 3), (["do out", "do in", "do in"], 2), (["wall -50 out", "do out"], 1),
                            (["wall -42 in"], 0), (["wall right in"], None), (["wall -43 in", "wall -43 out"], None),
                            (["leap 0", "way out in in"], 1), (["leap 0", "way out in"], None)):
            self.assertEqual(self.ask("\n".join(begin + rows)), None if wrong is None else len(begin) + wrong)
        seven = show_street(Street(ONE, -50, [ONE] * 7, ONE)).split("\n") + ["at 0 a"]
        for rows, wrong in ((["out left"], 0), (["out right"], None), (["out right", "out right"], 1), (["wall -43 in"], 0),
                            (["out right", "wall -43 in"], None)):
            self.assertEqual(self.ask("\n".join(seven + rows)), None if wrong is None else len(seven) + wrong)

    def test_places(self):
        begin = show_street(Street(ONE, -1, [TWO] * 3, ONE)).split("\n") + ["at 0 a"]
        for place, told in (("left", True), ("right", True), ("-1", True), ("0", True), ("1", True), ("2", False), ("-2", False), ("-0", False),
                            ("00", False), ("01", False), ("+1", False), ("--1", False), ("", False), ("Left", False), ("odd", False), ("1" * 5000, False)):
            self.assertEqual(self.ask("\n".join(begin + [f"wall {place} in"])), None if told else len(begin))

    def test_what_is_no_text(self):
        for thing in [*things(), [TEXT], (TEXT,), TEXT.split("\n"), every_act(), road()]:
            if not isinstance(thing, str):
                self.refuse(thing, 0)
            else:
                self.refuse(thing, first_wrong(thing))

    def test_by_chance(self):
        for walk in walks():
            rows = show_walk(walk).split("\n")
            chance = random.Random(repr(rows))
            for _ in range(25):
                k, m = chance.randrange(len(rows)), chance.randrange(len(rows))
                self.ask("\n".join(rows[:k] + [rows[m]] + rows[k:]))
                self.ask("\n".join(rows[:k] + [rows[m]] + rows[k + 1:]))


class Interface(unittest.TestCase):

    def test_each_is_defined_in_its_file(self):
        for one, names in ((show_walk, "(walk)"), (read_walk, "(text)")):
            self.assertEqual(one.__module__, journals.__name__)
            self.assertEqual(str(inspect.signature(one)), names)

    def test_by_names(self):
        self.assertEqual(show_walk(walk=read_walk(text=TEXT)), TEXT)

    def test_the_walk_is_as_it_was(self):
        walk, same = every_act(), every_act()
        show_walk(walk)
        self.assertTrue(walk == same)
        self.assertEqual(shape(walk.acts()), shape(same.acts()))


if __name__ == "__main__":
    unittest.main()
