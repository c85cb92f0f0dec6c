"""Texts of streets (point 12)."""

import copy
import inspect
import itertools
import re
import unittest

from likehouses import streettexts
from likehouses.errors import NoText
from likehouses.streets import Sort, Street
from likehouses.streettexts import read_street, show_street
from tests.samples import LETTERS, NAMES, chance_street, large, middle, odd_street, shape, small, things

PLAIN = """first -3
house left
room cave
house odd
room cave
room yard
door back yard -1 cave 2
door gate cave 1 yard 17
house odd
room den
house right
room a
room yard
door up a 0 yard 99"""

NAME = "[a-z]{1,8}"
BODY = f"(?:\nroom {NAME}){{1,6}}(?:\ndoor {NAME} {NAME} (?:-1|0|1) {NAME} [1-9][0-9]?){{0,12}}"
WHOLE = re.compile(f"first (0|-?[1-9][0-9]?)\nhouse left{BODY}(?:\nhouse odd{BODY}){{0,8}}\nhouse right{BODY}")


def is_whole(text):
    """Whether a text is one of a street, by one look at all of it."""
    found = WHOLE.fullmatch(text)
    if not found or abs(int(found[1])) > 50:
        return False
    for body in re.split("\nhouse [a-z]+", text)[1:]:
        rooms = re.findall("\nroom ([a-z]+)", body)
        doors = re.findall("\ndoor ([a-z]+) ([a-z]+)", body)
        names = [name for name, _ in doors]
        if rooms != sorted(set(rooms)) or names != sorted(set(names)) or {room for _, room in doors} - set(rooms):
            return False
    return True


# Whatever some street's text begins with, one of these makes one of it.
ENDS = ["", "\nroom a", "\nhouse right\nroom a", "\nroom a\nhouse right\nroom a",
        "\nhouse left\nroom a\nhouse right\nroom a"]


def begins_some(rows):
    """Whether some street's text begins with these rows, by the words of point 12."""
    return not rows or any(is_whole("\n".join(rows) + end) for end in ENDS)


class Reading(unittest.TestCase):

    def refused(self, text, row):
        with self.assertRaises(NoText) as caught:
            read_street(text)
        self.assertEqual(shape(vars(caught.exception)), shape({"row": row}), text)

    def agrees(self, text):
        """Read it, and look whether what is told is what the words of point 12 tell of it."""
        rows = text.split("\n")
        try:
            street = read_street(text)
        except NoText as refusal:
            row = refusal.row
            self.assertIs(type(row), int)
            self.assertFalse(is_whole(text), text)
            self.assertTrue(begins_some(rows[:row]), (text, row))
            self.assertTrue(row == len(rows) or not begins_some(rows[:row + 1]), (text, row))
        else:
            self.assertTrue(is_whole(text), text)
            self.assertEqual(show_street(street), text)


class Written(Reading):

    def both_ways(self, street, text=None):
        shown = show_street(street)
        self.assertIs(type(shown), str)
        if text is not None:
            self.assertEqual(shown, text)
        again = read_street(shown)
        self.assertIs(type(again), Street)
        self.assertEqual(again, street)
        self.assertEqual(show_street(again), shown)
        self.assertTrue(is_whole(shown))

    def test_one_row_by_row(self):
        left, right = Sort(["cave"], []), Sort(["yard", "a"], [("up", "a", 0, "yard", 99)])
        odd = [Sort(["yard", "cave"], [("gate", "cave", 1, "yard", 17), ("back", "yard", -1, "cave", 2)]),
               Sort(["den"], [])]
        self.both_ways(Street(left, -3, odd, right), PLAIN)

    def test_the_least_street(self):
        sort = Sort(["a"], [])
        self.both_ways(Street(sort, 0, [], sort), "first 0\nhouse left\nroom a\nhouse right\nroom a")

    def test_no_odd_house_and_up_to_eight(self):
        for many in range(9):
            for first in (-50, -49, -10, -9, -1, 0, 1, 9, 10, 49, 50):
                self.both_ways(odd_street(first, many))

    def test_one_room_and_six_no_door_and_twelve(self):
        for left, odd, right in itertools.product((small(), middle(), large()), repeat=3):
            for many in (0, 1, 8):
                self.both_ways(Street(left, 7, [odd] * many, right))

    def test_each_price_and_each_move(self):
        for price in (1, 2, 9, 10, 11, 50, 90, 98, 99):
            for move in (-1, 0, 1):
                sort = Sort(["a"], [("go", "a", move, "b", price)])
                self.both_ways(Street(sort, 0, [], sort))
                self.assertIn(f"\ndoor go a {move} b {price}\n", show_street(Street(sort, 0, [], sort)))

    def test_names(self):
        for name in NAMES:
            sort = Sort([name], [(name, name, 1, name, 1)])
            self.both_ways(Street(sort, 0, [sort], sort))
        sort = Sort(NAMES[:6], [(name, "room", 0, name, 1) for name in NAMES])
        self.both_ways(Street(sort, 0, [sort], sort))

    def test_a_goal_that_no_sort_has(self):
        sort = Sort(["a"], [("go", "a", 1, "nowhere", 1)])
        self.both_ways(Street(sort, 0, [sort], sort))

    def test_streets_by_chance(self):
        for seed in range(60):
            self.both_ways(chance_street(seed, rooms=8, most_odd=8))

    def test_handed_in_in_any_order(self):
        one = Sort(["b", "a"], [("d", "b", 0, "a", 2), ("c", "a", 0, "b", 1)])
        rows = "room a\nroom b\ndoor c a 0 b 1\ndoor d b 0 a 2"
        self.both_ways(Street(one, 0, [], one), f"first 0\nhouse left\n{rows}\nhouse right\n{rows}")

    def test_what_is_told_is_new(self):
        one, other = read_street(PLAIN), read_street(PLAIN)
        self.assertIsNot(one, other)
        Street.__init__(one, small(), 9, [], small())
        self.assertEqual(show_street(other), PLAIN)
        self.assertEqual(show_street(read_street(PLAIN)), PLAIN)

    def test_what_is_told_is_of_just_the_kinds(self):
        class Word(str):
            pass

        street = read_street(Word(PLAIN))
        self.assertEqual(shape(street.first()), shape(-3))
        sort = street.right()
        self.assertEqual(shape(sort.rooms()), shape(["a", "yard"]))
        self.assertEqual(shape(sort.doors()), shape([("up", "a", 0, "yard", 99)]))


def edited(rows, at, row):
    """The text with one row exchanged, by None for no row at all."""
    return "\n".join(rows[:at] + ([] if row is None else [row]) + rows[at + 1:])


class Edited(Reading):

    def test_each_sign_out_exchanged_and_more(self):
        for at in range(len(PLAIN) + 1):
            self.agrees(PLAIN[:at] + PLAIN[at + 1:])
            for sign in "ao9 0-\n":
                self.agrees(PLAIN[:at] + sign + PLAIN[at + 1:])
                self.agrees(PLAIN[:at] + sign + PLAIN[at:])

    def test_each_sign_by_others_yet(self):
        for at in range(len(PLAIN)):
            for sign in "+1A{~,":
                self.agrees(PLAIN[:at] + sign + PLAIN[at + 1:])

    def test_each_word_out_twice_and_exchanged(self):
        rows = PLAIN.split("\n")
        others = ["first", "house", "left", "odd", "right", "room", "door", "cave", "yard", "zz", "0", "1", "-1", "99",
                  "-0", "+1", "00", "01", "100", "-50", "-51", "50", "51", "2", "-2", "abcdefghi", "Gate", "a1", ""]
        for at, row in enumerate(rows):
            words = row.split(" ")
            for k, word in enumerate(words):
                for more in ([], [word, word], *[[other] for other in others]):
                    self.agrees(edited(rows, at, " ".join(words[:k] + more + words[k + 1:])))
                if k:
                    words_exchanged = words[:k - 1] + [words[k], words[k - 1]] + words[k + 1:]
                    self.agrees(edited(rows, at, " ".join(words_exchanged)))

    def test_each_row_out_twice_and_exchanged(self):
        for text in (PLAIN, show_street(odd_street(5, 8)), show_street(Street(large(), 0, [large()], large()))):
            rows = text.split("\n")
            others = ["first 3", "house left", "house odd", "house right", "room aa", "room zzzzzzzz", "house", "",
                      "door aaa cave 0 a 1", "door zzzzzzzz yard 0 a 1", "room", "door", "left"]
            for at, row in enumerate(rows):
                self.agrees(edited(rows, at, None))
                self.agrees(edited(rows, at, row + "\n" + row))
                if at:
                    self.agrees("\n".join(rows[:at - 1] + [row, rows[at - 1]] + rows[at + 1:]))
                for other in others:
                    self.agrees(edited(rows, at, other))
                    self.agrees(edited(rows, at, row + "\n" + other))

    def test_streets_by_chance(self):
        for seed in range(15):
            rows = show_street(chance_street(seed)).split("\n")
            for at, row in enumerate(rows):
                self.agrees(edited(rows, at, None))
                self.agrees(edited(rows, at, row + "\n" + rows[-1 - at]))
                self.agrees(edited(rows, at, rows[-1 - at]))


class Refused(Reading):

    def test_cut_off_behind_each_row(self):
        rows = PLAIN.split("\n")
        # Behind the right house's first room a street's text may end at each row.
        for many in range(1, len(rows)):
            text = "\n".join(rows[:many])
            if many <= 11:
                self.refused(text, many)
            else:
                self.assertEqual(show_street(read_street(text)), text)
            self.refused(text + "\n", many)

    def test_a_line_feed_at_the_end_or_the_beginning(self):
        self.refused(PLAIN + "\n", 14)
        self.refused(PLAIN + "\n\n", 14)
        self.refused("\n" + PLAIN, 0)
        self.refused(PLAIN.replace("\n", "\n\n", 1), 1)
        self.refused("\n", 0)

    def test_without_signs_or_with_blanks_alone(self):
        for text in ("", " ", "  ", "\n", "\n\n", " \n"):
            self.refused(text, 0)

    def test_blanks(self):
        rows = PLAIN.split("\n")
        for at, row in enumerate(rows):
            for wrong in (" " + row, row + " ", row.replace(" ", "  ", 1), row.replace(" ", "\n", 1), row + "  ",
                          row.replace(" ", ""), row.upper(), row + "."):
                self.refused(edited(rows, at, wrong), at)

    def test_numbers(self):
        for word in ("-0", "+1", "00", "01", "-01", "51", "-51", "100", "-100", "a", "", "-", "1.", "5-", "--1",
                     "0x1", "1_0", " 1", "1" * 5000):
            self.refused(PLAIN.replace("first -3", "first " + word), 0)
        for move in ("-0", "+1", "00", "01", "2", "-2", "-01", "a", "", "-", "11"):
            self.refused(PLAIN.replace("gate cave 1", "gate cave " + move), 7)
        for price in ("0", "-0", "-1", "+1", "00", "01", "017", "100", "101", "a", "", "-", "1" * 5000):
            self.refused(PLAIN.replace("yard 17", "yard " + price), 7)
        for word in ("50", "-50", "0", "1", "-1"):
            self.assertEqual(read_street(PLAIN.replace("first -3", "first " + word)).first(), int(word))
        for price in ("1", "99", "10", "9"):
            self.assertEqual(read_street(PLAIN.replace("yard 17", "yard " + price)).odd()[0].doors()[1][4], int(price))

    def test_names(self):
        for name in ("abcdefghi", "Den", "deN", "den1", "1", "", "-", "de-n", "d.n", "_", "a" * 100):
            self.refused(PLAIN.replace("room den", "room " + name), 9)
            self.refused(PLAIN.replace("door gate", "door " + name), 7)
            self.refused(PLAIN.replace("door gate cave", "door gate " + name), 7)
            self.refused(PLAIN.replace("cave 1 yard", "cave 1 " + name), 7)
        for name in ("a", "abcdefgh", "door"):
            self.assertEqual(read_street(PLAIN.replace("room den", "room " + name)).odd()[1].rooms(), [name])

    def test_out_of_order_or_twice(self):
        for old, new, row in (
                ("room cave\nroom yard", "room yard\nroom cave", 5), ("room yard\ndoor", "room yard\nroom yard\ndoor", 6),
                ("room cave\nroom yard", "room cave\nroom cave", 5), ("room yard\ndoor", "room yard\nroom yarc\ndoor", 6),
                ("gate cave 1", "back cave 1", 7), ("gate cave 1", "bac cave 1", 7), ("back yard -1", "gate yard -1", 7),
                ("back yard -1", "h yard -1", 7), ("room yard\ndoor back", "room yard\nroom yards\nroom yard", 7)):
            text = PLAIN.replace(old, new, 1)
            self.assertNotEqual(text, PLAIN)
            self.refused(text, row)
        # A room's row behind a door's is none, though the order of the rooms were kept.
        self.refused(PLAIN.replace("cave 2\n", "cave 2\nroom zoo\n"), 7)

    def test_a_door_of_no_room_of_its_sort(self):
        for room in ("den", "hall", "a", "back", "cav", "caves"):
            self.refused(PLAIN.replace("gate cave", "gate " + room), 7)
        self.refused(PLAIN.replace("room den", "room den\ndoor on cave 0 den 1"), 10)
        self.refused(PLAIN.replace("up a 0", "up cave 0"), 13)

    def test_a_seventh_room_a_thirteenth_door_a_ninth_odd_house(self):
        rooms = [f"room a{letter}" for letter in LETTERS]
        doors = [f"door a{letter} aa 0 b 1" for letter in LETTERS]
        for many, told in ((6, None), (7, 8), (8, 8)):
            text = "\n".join(["first 0", "house left", *rooms[:many], "house right", "room a"])
            self.told_or_refused(text, told)
            text = "\n".join(["first 0", "house left", "room a", "house right", *rooms[:many]])
            self.told_or_refused(text, told and 10)
        for many, told in ((12, None), (13, 15), (14, 15)):
            text = "\n".join(["first 0", "house left", "room aa", *doors[:many], "house right", "room a"])
            self.told_or_refused(text, told)
            text = "\n".join(["first 0", "house left", "room a", "house right", "room aa", *doors[:many]])
            self.told_or_refused(text, told and 17)
        for many, told in ((8, None), (9, 19), (10, 19)):
            text = "\n".join(["first 0", "house left", "room a"] + ["house odd", "room b"] * many
                             + ["house right", "room c"])
            self.told_or_refused(text, told)

    def told_or_refused(self, text, row):
        if row is None:
            self.assertEqual(show_street(read_street(text)), text)
        else:
            self.refused(text, row)

    def test_houses(self):
        for old, new, row in (
                ("house left", "house odd", 1), ("house left", "house right", 1), ("house left", "house", 1),
                ("house left", "house left left", 1), ("house left", "room cave", 1), ("house left", "first -3", 1),
                ("house left", "door a b 0 c 1", 1), ("house left", "left", 1),
                ("room cave", "house odd", 2), ("room cave", "house right", 2), ("room cave", "door a b 0 c 1", 2),
                ("house odd", "house left", 3), ("house odd", "first 0", 3), ("house odd", "house even", 3),
                ("room den", "house odd", 9), ("room den", "house right", 9),
                ("house right", "house left", 10), ("house right", "right", 10),
                ("room a\n", "room a\nhouse odd\n", 12), ("room a\n", "room a\nhouse right\n", 12),
                ("room a\n", "house right\n", 11), ("room a\n", "house odd\n", 11)):
            self.assertIn(old, PLAIN)
            self.refused(PLAIN.replace(old, new, 1), row)
        self.refused(PLAIN.replace("house right\n", "house odd\n"), 14)
        self.refused(PLAIN + "\nhouse right\nroom a", 14)
        self.refused(PLAIN + "\nhouse odd\nroom a", 14)
        self.refused(PLAIN + "\nhouse left\nroom a", 14)

    def test_what_is_no_text(self):
        for thing in things() + [[PLAIN], (PLAIN,), PLAIN.split("\n"), tuple(PLAIN.split("\n")), {PLAIN: PLAIN}]:
            if not isinstance(thing, str):
                before = copy.deepcopy(thing)
                self.refused(thing, 0)
                self.assertEqual(shape(thing), shape(before))

    def test_texts_of_other_kinds(self):
        for text in ("two words\n", "a" * 9, "form", "first", "first 3 4", "house left", "-3", "first -3 ", "First -3"):
            self.refused(text, 0)
        self.refused("first 3", 1)
        self.refused("first -3\n", 1)
        self.refused("first 3\nfirst 3", 1)


class Interface(unittest.TestCase):

    def test_each_is_defined_in_its_file(self):
        for asked, names in ((show_street, "(street)"), (read_street, "(text)")):
            self.assertEqual(asked.__module__, streettexts.__name__)
            self.assertEqual(str(inspect.signature(asked)), names)
        self.assertEqual(show_street(street=read_street(text=PLAIN)), PLAIN)


if __name__ == "__main__":
    unittest.main()
