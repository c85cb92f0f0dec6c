"""What several tests are made of: things of every kind, names, sorts and streets."""

from likehouses.streets import Sort, Street

LETTERS = "abcdefghijklmnopqrstuvwxyz"


def things():
    """New ones at each call: None, truths, numbers, texts, tuples, lists and dicts."""
    return [
        None, True, False,
        0, 1, -1, 7, 10 ** 60, -10 ** 5000,
        "", "form", "two words\n", "a" * 9,
        (), (1,), (3, "cave"), (1, (2, (3, [4]))),
        [], [0], ["a", ["b", ["c", []]]], [True, 1, None],
        {}, {"a": 1}, {"left": ["cave", "cave"], 3: [], None: {}}, {(1, "cave"): [{"b": (1, [2])}]},
        [[[[[[[[]]]]]]]], ((((((((),),),),),),),), {1: {1: {1: {1: {1: {1: {1: {}}}}}}}},
    ]


def shape(thing):
    """A thing with the kinds of all its parts, so that 1 and True, () and [] are unlike."""
    if isinstance(thing, (list, tuple)):
        return (type(thing), [shape(part) for part in thing])
    if isinstance(thing, dict):
        return (type(thing), [(shape(key), shape(worth)) for key, worth in thing.items()])
    return (type(thing), thing)


def spoil(thing):
    """Change every list and dict within a thing, however deep."""
    if isinstance(thing, (list, tuple)):
        for part in thing:
            spoil(part)
    if isinstance(thing, dict):
        for worth in thing.values():
            spoil(worth)
        thing["spoilt"] = True
    if isinstance(thing, list):
        thing.append("spoilt")


def lists_and_dicts(thing):
    """All lists and dicts within a thing, itself among them."""
    found = [thing] if isinstance(thing, (list, dict)) else []
    parts = thing.values() if isinstance(thing, dict) else thing if isinstance(thing, (list, tuple)) else ()
    for part in parts:
        found.extend(lists_and_dicts(part))
    return found


SIX_ROOMS = ["a", "cave", "den", "hall", "yard", "zzzzzzzz"]

TWELVE_DOORS = [
    ("a", "cave", 1, "yard", 7),
    ("ab", "den", -1, "cave", 99),
    ("b", "yard", 0, "yard", 1),
    ("cave", "cave", 0, "nowhere", 2),
    ("door", "hall", 1, "hall", 98),
    ("e", "a", -1, "a", 50),
    ("gate", "zzzzzzzz", 0, "a", 3),
    ("h", "zzzzzzzz", 1, "zzzzzzzz", 4),
    ("i", "a", 0, "den", 5),
    ("j", "den", 1, "hall", 6),
    ("zz", "cave", -1, "cave", 8),
    ("zzzzzzzz", "yard", 1, "a", 9),
]


def small():
    return Sort(["cave"], [])


def middle():
    return Sort(["cave", "yard"], [("gate", "cave", 1, "yard", 7), ("back", "yard", -1, "cave", 2)])


def large():
    return Sort(SIX_ROOMS, TWELVE_DOORS)


def numbered(number):
    """A sort for each number, unlike for unlike ones from 0 to 25."""
    room = "room" + LETTERS[number]
    return Sort([room], [("go", room, 1, room, number + 1)])


def odd_street(first, many):
    """A street whose many odd houses, like its sides, are all unlike."""
    return Street(small(), first, [numbered(k) for k in range(many)], middle())
