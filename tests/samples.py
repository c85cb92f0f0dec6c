"""What several tests are made of: things of every kind, names, sorts and streets."""

import heapq
import random
import re

from likehouses.streets import Sort, Street

LETTERS = "abcdefghijklmnopqrstuvwxyz"


def things():
    """New ones at each call: None, truths, numbers, texts, tuples, lists and dicts."""
    return [
        None, True, False,
        0, 1, -1, 7, 10 ** 60, -10 ** 5000,
        "", "form", "two words\n", "a" * 9,
        (), (1,), (3, "cave"), (1, (2, (3, [4]))),
        [], [0], ["a", ["b", ["c", []]]], [True, 1, None],
        {}, {"a": 1}, {"left": ["cave", "cave"], 3: [], None: {}}, {(1, "cave"): [{"b": (1, [2])}]},
        [[[[[[[[]]]]]]]], ((((((((),),),),),),),), {1: {1: {1: {1: {1: {1: {1: {}}}}}}}},
    ]


def shape(thing):
    """A thing with the kinds of all its parts, so that 1 and True, () and [] are unlike."""
    if isinstance(thing, (list, tuple)):
        return (type(thing), [shape(part) for part in thing])
    if isinstance(thing, dict):
        return (type(thing), [(shape(key), shape(worth)) for key, worth in thing.items()])
    return (type(thing), thing)


def spoil(thing):
    """Change every list and dict within a thing, however deep."""
    if isinstance(thing, (list, tuple)):
        for part in thing:
            spoil(part)
    if isinstance(thing, dict):
        for worth in thing.values():
            spoil(worth)
        thing["spoilt"] = True
    if isinstance(thing, list):
        thing.append("spoilt")


def lists_and_dicts(thing):
    """All lists and dicts within a thing, itself among them."""
    found = [thing] if isinstance(thing, (list, dict)) else []
    parts = thing.values() if isinstance(thing, dict) else thing if isinstance(thing, (list, tuple)) else ()
    for part in parts:
        found.extend(lists_and_dicts(part))
    return found


SIX_ROOMS = ["a", "cave", "den", "hall", "yard", "zzzzzzzz"]

TWELVE_DOORS = [
    ("a", "cave", 1, "yard", 7),
    ("ab", "den", -1, "cave", 99),
    ("b", "yard", 0, "yard", 1),
    ("cave", "cave", 0, "nowhere", 2),
    ("door", "hall", 1, "hall", 98),
    ("e", "a", -1, "a", 50),
    ("gate", "zzzzzzzz", 0, "a", 3),
    ("h", "zzzzzzzz", 1, "zzzzzzzz", 4),
    ("i", "a", 0, "den", 5),
    ("j", "den", 1, "hall", 6),
    ("zz", "cave", -1, "cave", 8),
    ("zzzzzzzz", "yard", 1, "a", 9),
]


def small():
    return Sort(["cave"], [])


def middle():
    return Sort(["cave", "yard"], [("gate", "cave", 1, "yard", 7), ("back", "yard", -1, "cave", 2)])


def large():
    return Sort(SIX_ROOMS, TWELVE_DOORS)


def numbered(number):
    """A sort for each number, unlike for unlike ones from 0 to 25."""
    room = "room" + LETTERS[number]
    return Sort([room], [("go", room, 1, room, number + 1)])


def odd_street(first, many):
    """A street whose many odd houses, like its sides, are all unlike."""
    return Street(small(), first, [numbered(k) for k in range(many)], middle())


NAMES = ["a", "abcdefgh", "zzzzzzzz", "room", "door", "house", "odd", "first", "left", "right"]

# Of these none is a name, whatever it is asked for.
NO_NAMES = [None, True, False, 0, 1, -7, "", " ", "abcdefghi", "Gate", "gatE", "ga te", "gate ", " gate", "gate1",
            "-", "a\n", "\n", "a,b", ["gate"], ("gate",), [], (), {}, {"gate": 1}, [["gate"]], ("gate", 1)]


class Doors:
    """The doors that are there, by the words of point 11 alone, for searches."""

    def __init__(self, street):
        self.street = street
        self.kept = {}
        self.doors = {}

    def sort(self, house):
        """The rooms and doors of a house's sort."""
        first, many = self.street.first(), len(self.street)
        near = first - 1 if house < first else min(house, first + many)
        if near not in self.kept:
            sort = self.street.sort_at(near)
            self.kept[near] = (sort.rooms(), sort.doors())
        return self.kept[near]

    def rooms(self, house):
        return self.sort(house)[0]

    def there(self, house, room):
        """Pairs of a door's name and ((house, room) behind it, price), of the doors that are there."""
        # Two houses out on a side all are alike, the next ones, too.
        near = max(self.street.first() - 2, min(house, self.street.first() + len(self.street) + 1))
        if (near, room) not in self.doors:
            self.doors[near, room] = [(name, move, goal, price) for name, start, move, goal, price in self.sort(near)[1]
                                      if start == room and goal in self.rooms(near + move)]
        return [(name, ((house + move, goal), price)) for name, move, goal, price in self.doors[near, room]]

    def why_not(self, house, room, step):
        """Why a step can't be done, None where it can."""
        if not (type(step) is str and re.fullmatch("[a-z]{1,8}", step)):
            return "form"
        doors = [door for door in self.sort(house)[1] if door[0] == step]
        if not doors:
            return "door"
        if doors[0][1] != room:
            return "room"
        return None if step in dict(self.there(house, room)) else "goal"


def chance_sort(chance, names, most_doors):
    """A sort of some of these rooms, with doors by chance, some of them to rooms that it hasn't."""
    rooms = chance.sample(names, chance.randint(1, min(6, len(names))))
    many = chance.randint(0, most_doors)
    return Sort(rooms, [("d" + LETTERS[k], chance.choice(rooms), chance.choice([-1, 0, 1]), chance.choice(names),
                         chance.randint(1, 99)) for k in range(many)])


def chance_street(seed, rooms=4, most_doors=12, most_odd=4):
    """A street by chance, the same for the same seed; rooms is of how many names its sorts are."""
    chance = random.Random(seed)
    names = chance.sample(list(LETTERS), rooms)
    sorts = [chance_sort(chance, names, most_doors) for _ in range(2 + chance.randint(0, most_odd))]
    return Street(sorts[0], chance.randint(-50, 50), sorts[1:-1], sorts[-1])


def houses_about(street):
    """Houses near and far: the odd ones, those next to them, and some far off on both sides."""
    first, behind = street.first(), street.first() + len(street)
    return [*range(first - 3, behind + 3), first - 40, behind + 40, 10 ** 12 - 1, -10 ** 12 + 1]


def changed(thing, change):
    """All things like this one with one part of it, or itself, changed: change tells what may stand for a part."""
    yield from change(thing)
    if isinstance(thing, (list, tuple)):
        for k, part in enumerate(thing):
            for other in changed(part, change):
                yield type(thing)([*thing[:k], other, *thing[k + 1:]])


def other_forms(thing):
    """A list for a tuple, a tuple for a list, a part more, a part less, twice."""
    if isinstance(thing, (list, tuple)):
        kind = type(thing)
        yield (list if kind is tuple else tuple)(thing)
        yield dict(enumerate(thing))
        yield kind([*thing, *thing])
        yield kind([*thing, None])
        for k in range(len(thing)):
            yield kind([*thing[:k], *thing[k + 1:]])
            yield kind([*thing[:k], thing[k], *thing[k:]])


def any_things(_):
    return things()


def lots_found(street, stand, low, high, nearer=45):
    """The lots of houses low to high, by a search through all stands, also this much further on both sides."""
    doors, house = Doors(street), stand[0]
    least = min(low, house, street.first() - 1) - nearer
    most = max(high, house, street.first() + len(street)) + nearer
    found, waiting = {stand}, [stand]
    while waiting:
        for _, (goal, _) in doors.there(*waiting.pop()):
            if least <= goal[0] <= most and goal not in found:
                found.add(goal)
                waiting.append(goal)
    return {house: tuple(room for room in doors.rooms(house) if (house, room) in found)
            for house in range(low, high + 1)}


def ring_sort(goals, out=1, more=()):
    """A sort of rooms a, b .. with a door out from each to the one that goals has at its place, - for none."""
    rooms = list(LETTERS[:len(goals)])
    return Sort(rooms, [("o" + room, room, out, goal, 1) for room, goal in zip(rooms, goals) if goal != "-"]
                + list(more))


def alike(sort):
    """A street all of whose houses are of one sort."""
    return Street(sort, 0, [], sort)


def linked_sort(chance, rooms, most_price=99):
    """A sort with a ring of doors through all its rooms, and others by chance, in and out."""
    order = chance.sample(rooms, len(rooms))
    doors = [(room, chance.choice([0, 0, 1, -1]), order[k - 1]) for k, room in enumerate(order)]
    doors += [(chance.choice(rooms), move, chance.choice(rooms)) for move in (1, -1)]
    while len(doors) < chance.randint(8, 12):
        doors.append((chance.choice(rooms), chance.choice([1, -1, 0]), chance.choice(rooms)))
    return Sort(rooms, [("d" + LETTERS[k], room, move, goal, chance.randint(1, most_price))
                        for k, (room, move, goal) in enumerate(doors[:12])])


def linked_street(seed, most_odd=4, rooms=None):
    """A street by chance, the same for the same seed, in which most stands can be come to from most others."""
    chance = random.Random(seed)
    names = list(LETTERS[:rooms or chance.randint(1, 6)])
    most_price = chance.choice([2, 9, 99])
    sorts = [linked_sort(chance, names, most_price) for _ in range(2 + chance.randint(0, most_odd))]
    if chance.random() < 0.2:
        sorts = [sorts[0]] * len(sorts)
    return Street(sorts[0], chance.randint(-50, 50), sorts[1:-1], sorts[-1])


def streets_and_stands(many):
    """Streets by chance, each with a first stand: in the odd houses, about them, or anywhere."""
    pairs = []
    for seed in range(many):
        chance = random.Random(seed)
        street = linked_street(seed) if seed % 3 else chance_street(seed, rooms=5)
        near = chance.randint(street.first() - 3, street.first() + len(street) + 2)
        house = chance.choice([max(-60, min(60, near)), chance.randint(-60, 60), chance.choice([-60, 60])])
        pairs.append((street, (house, chance.choice(street.sort_at(house).rooms()))))
    return pairs


def prices_found(street, stand, low, high):
    """The least price of each stand that can be come to through houses low to high, by a search through all of these."""
    doors, best, waiting = Doors(street), {stand: 0}, [(0, stand)]
    while waiting:
        price, here = heapq.heappop(waiting)
        if price == best[here]:
            for _, (goal, more) in doors.there(*here):
                if low <= goal[0] <= high and price + more < best.get(goal, price + more + 1):
                    best[goal] = price + more
                    heapq.heappush(waiting, (price + more, goal))
    return best


class FarPrices:
    """Least prices however far: of the first comings, as sums, from a search through the houses near by."""

    def __init__(self, street, stand):
        self.street = street
        self.low = min(stand[0], street.first() - 1)
        self.high = max(stand[0], street.first() + len(street))
        self.near = prices_found(street, stand, self.low - 45, self.high + 45)
        self.kept = {}

    def comings(self, out):
        """First comings and loops out of a side, from room to room, with their least prices."""
        if out not in self.kept:
            street = alike(self.street.right() if out > 0 else self.street.left())
            rooms, loops, firsts = street.right().rooms(), {}, {}
            for room in rooms:
                found = prices_found(street, (0, room), min(0, 45 * out), max(0, 45 * out))
                loops[room] = {goal: found[0, goal] for goal in rooms if (0, goal) in found}
            for room in rooms:
                for last, price in loops[room].items():
                    for _, ((house, goal), more) in Doors(street).there(0, last):
                        if house == out:
                            firsts[room, goal] = min(firsts.get((room, goal), price + more), price + more)
            self.kept[out] = (loops, firsts)
        return self.kept[out]

    def at(self, house, room):
        """The least price of a stand, None where no way leads there."""
        if self.low <= house <= self.high:
            return self.near.get((house, room))
        out, edge = (1, self.high) if house > self.high else (-1, self.low)
        loops, square = self.comings(out)
        row = {goal: price for (near, goal), price in self.near.items() if near == edge}
        many = abs(house - edge)
        while many:
            if many % 2:
                row = least_of((goal, row[start] + price) for (start, goal), price in square.items() if start in row)
            square = least_of(((start, goal), price + more) for (start, amid), price in square.items()
                              for (begin, goal), more in square.items() if begin == amid)
            many //= 2
        return least_of((goal, row[start] + price) for start in row for goal, price in loops[start].items()).get(room)


def least_of(pairs):
    """A dict of the least price of each."""
    least = {}
    for one, price in pairs:
        least[one] = min(least.get(one, price), price)
    return least
