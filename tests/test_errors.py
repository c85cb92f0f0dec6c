"""The refusals (point 3): their fields, what they stand under, their copies (point 2)."""

import inspect
import unittest

from likehouses import errors
from tests.samples import lists_and_dicts, shape, spoil, things

# name: (the error of Python's own right above, the fields)
CLASSES = {
    "NoText": (ValueError, ("row",)),
    "NoStep": (ValueError, ("why",)),
    "NoWay": (ValueError, ("at", "why")),
    "Shunned": (ValueError, ("stand",)),
    "NoName": (KeyError, ("asked",)),
    "NoMoment": (IndexError, ("asked",)),
    "NoMore": (LookupError, ("word",)),
    "TooFar": (OverflowError, ("house",)),
    "TooMany": (OverflowError, ("most",)),
}


def by_places(name, parts):
    return getattr(errors, name)(*parts)


def by_names(name, parts):
    return getattr(errors, name)(**dict(zip(CLASSES[name][1], parts)))


def ways_to_make():
    """Each class with each way to make it."""
    return [(name, make) for name in CLASSES for make in (by_places, by_names)]


def parts_of(many):
    """Tuples of so many new things: each thing in each place beside a number and beside another one."""
    if many == 1:
        return [(thing,) for thing in things()]
    return (list(zip(things(), reversed(things())))
            + [(thing, 5) for thing in things()] + [(5, thing) for thing in things()])


class Refusals(unittest.TestCase):

    def test_fields_are_what_it_was_made_of(self):
        for name, make in ways_to_make():
            fields = CLASSES[name][1]
            for parts, alike in zip(parts_of(len(fields)), parts_of(len(fields))):
                with self.subTest(name=name, make=make.__name__):
                    refusal = make(name, parts)
                    self.assertEqual([shape(getattr(refusal, field)) for field in fields],
                                     [shape(part) for part in alike])

    def test_fields_by_names_in_any_order(self):
        refusal = errors.NoWay(why="goal", at=3)
        self.assertEqual((refusal.at, refusal.why), (3, "goal"))
        refusal = errors.NoWay(3, why="goal")
        self.assertEqual((refusal.at, refusal.why), (3, "goal"))

    def test_the_fields_are_set_on_each_object(self):
        for name, make in ways_to_make():
            fields = CLASSES[name][1]
            with self.subTest(name=name, make=make.__name__):
                refusal = make(name, tuple(range(len(fields))))
                self.assertEqual(vars(refusal), dict(zip(fields, range(len(fields)))))

    def test_each_is_made_of_just_its_fields(self):
        for name, (_, fields) in CLASSES.items():
            with self.subTest(name):
                told = inspect.signature(getattr(errors, name)).parameters.values()
                self.assertEqual([one.name for one in told], list(fields))
                self.assertEqual({one.kind for one in told}, {inspect.Parameter.POSITIONAL_OR_KEYWORD})
                self.assertEqual({one.default for one in told}, {inspect.Parameter.empty})
                for many in range(5):
                    if many != len(fields):
                        with self.assertRaises(TypeError):
                            by_places(name, (1,) * many)
                with self.assertRaises(TypeError):
                    getattr(errors, name)(other=1)

    def test_each_stands_straight_under_its_error(self):
        for name, (base, _) in CLASSES.items():
            with self.subTest(name):
                self.assertEqual(getattr(errors, name).__bases__, (base,))

    def test_each_is_caught_as_its_error_and_by_its_name(self):
        for name, make in ways_to_make():
            base, fields = CLASSES[name]
            for caught in (base, getattr(errors, name)):
                with self.subTest(name=name, make=make.__name__):
                    with self.assertRaises(caught):
                        raise make(name, (["a"],) * len(fields))

    def test_none_is_another_one(self):
        for name, make in ways_to_make():
            refusal = make(name, (1,) * len(CLASSES[name][1]))
            for other in CLASSES:
                with self.subTest(name=name, other=other):
                    self.assertEqual(isinstance(refusal, getattr(errors, other)), name == other)

    def test_defined_in_their_file(self):
        for name in CLASSES:
            self.assertEqual(getattr(errors, name).__module__, "likehouses.errors")

    def test_none_is_equal_to_another_thing(self):
        for name, make in ways_to_make():
            refusal = make(name, (1,) * len(CLASSES[name][1]))
            for thing in things():
                with self.subTest(name=name):
                    self.assertFalse(refusal == thing)
                    self.assertTrue(refusal != thing)

    def test_it_can_be_shown_whatever_it_was_made_of(self):
        for name, make in ways_to_make():
            for parts in parts_of(len(CLASSES[name][1])):
                refusal = make(name, parts)
                self.assertEqual((type(str(refusal)), type(repr(refusal))), (str, str))


class Copies(unittest.TestCase):

    def test_what_was_handed_in_changed_behind(self):
        for name, make in ways_to_make():
            fields = CLASSES[name][1]
            for parts, alike in zip(parts_of(len(fields)), parts_of(len(fields))):
                with self.subTest(name=name, make=make.__name__):
                    refusal = make(name, parts)
                    shown = (str(refusal), repr(refusal))
                    spoil(parts)
                    self.assertEqual([shape(getattr(refusal, field)) for field in fields],
                                     [shape(part) for part in alike])
                    self.assertEqual((str(refusal), repr(refusal)), shown)

    def test_fields_changed_behind(self):
        for name, make in ways_to_make():
            fields = CLASSES[name][1]
            for parts, alike in zip(parts_of(len(fields)), parts_of(len(fields))):
                with self.subTest(name=name, make=make.__name__):
                    one, two = make(name, parts), make(name, parts)
                    for field in fields:
                        spoil(getattr(one, field))
                    self.assertEqual([shape(part) for part in parts], [shape(part) for part in alike])
                    self.assertEqual([shape(getattr(two, field)) for field in fields],
                                     [shape(part) for part in alike])

    def test_no_list_stands_twice(self):
        shared = ["a"]
        for made_of in ([shared, shared], (shared, shared), {"a": shared, "b": shared}, [(shared,), {1: shared}]):
            for name, make in ways_to_make():
                fields = CLASSES[name][1]
                with self.subTest(name=name, made_of=made_of):
                    refusal = make(name, (made_of,) * len(fields))
                    found = lists_and_dicts([getattr(refusal, field) for field in fields])
                    self.assertEqual(len({id(one) for one in found}), len(found))
                    for field in fields:
                        self.assertEqual(shape(getattr(refusal, field)), shape(made_of))


if __name__ == "__main__":
    unittest.main()
