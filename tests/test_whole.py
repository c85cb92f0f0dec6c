"""The promise over the whole program (point 4): what a street lets hangs on no name, however it is told or moved."""

import random
import unittest

from likehouses.changes import backward, folded, moved, renamed, told_out, turned, unlike, walled
from likehouses.courses import course, houses_with, next_with, rooms_at
from likehouses.errors import TooMany
from likehouses.ever import for_ever, is_ever
from likehouses.fences import bars, fence, is_fence
from likehouses.journals import read_walk, show_walk
from likehouses.lots import lot_holds, lot_paper, lots
from likehouses.numbers import are_numbers, number_at, numbers_of
from likehouses.rates import is_rate, rate
from likehouses.relations import comes_again, first_comings, loops_out, power
from likehouses.rows import row_read, rows_gone, unrolled
from likehouses.stands import is_stand
from likehouses.streets import Sort, Street, places_of
from likehouses.streettexts import read_street, show_street
from likehouses.telling import way_to
from likehouses.walk import Walk
from likehouses.ways import done, played, price_of, steps
from tests.samples import chance_street, linked_street, shape

FAR = 10 ** 12 - 1
SWAP = {"a": "b", "b": "a", "c": "hall", "d": "zz"}
DOORS = {"da": "dz", "db": "da", "dc": "first", "nowhere": "never"}


def pairs():
    """Streets with first stands, near enough to be moved by some houses."""
    for seed in range(40):
        chance = random.Random(seed)
        street = linked_street(seed, most_odd=5, rooms=chance.randint(1, 4)) if seed % 2 else chance_street(seed, rooms=4)
        street = moved(street, chance.randint(-30, 30) - street.first())
        house = street.first() + chance.randint(-3, len(street) + 3)
        yield street, (house, chance.choice(street.sort_at(house).rooms()))


def same_house(house):
    return house


def otherwise(street):
    """Pairs of a street told otherwise, moved, turned or renamed, and how houses, rooms and doors are carried over."""
    plain = (same_house, {}, {})
    told = [(folded(street), plain), (read_street(show_street(street)), plain)]
    if len(street) < 8:
        told += [(told_out(street, "left"), plain), (told_out(street, "right"), plain)]
    if len(street) < 7:
        told.append((told_out(told_out(street, "left"), "right"), plain))
    for by in (-7, 1, 12):
        told.append((moved(street, by), (lambda house, by=by: house + by, {}, {})))
    told.append((turned(street), (lambda house: -house, {}, {})))
    told.append((renamed(street, SWAP, DOORS), (same_house, SWAP, DOORS)))
    return told


class Carried(unittest.TestCase):

    def carried(self):
        for street, stand in pairs():
            for other, (house_of, rooms, doors) in otherwise(street):
                def stand_of(here):
                    return house_of(here[0]), rooms.get(here[1], here[1])

                yield street, stand, other, stand_of, doors

    def stands(self, street, stand, about=3):
        houses = [*range(street.first() - about, street.first() + len(street) + about), stand[0] + 40, stand[0] - 40, 10 ** 9, -10 ** 9]
        return [(house, room) for house in houses for room in street.sort_at(house).rooms()]

    def test_stands_and_steps(self):
        for street, stand, other, stand_of, doors in self.carried():
            for here in self.stands(street, stand):
                self.assertTrue(is_stand(other, stand_of(here)))
                there = steps(street, here)
                self.assertEqual(steps(other, stand_of(here)), sorted(doors.get(step, step) for step in there))
                for step in there:
                    goal, price = done(street, here, step)
                    self.assertEqual(done(other, stand_of(here), doors.get(step, step)), (stand_of(goal), price))

    def test_what_can_be_come_to_and_fences(self):
        for street, stand, other, stand_of, _ in self.carried():
            told, shown = fence(street, stand), fence(other, stand_of(stand))
            self.assertTrue(is_fence(other, stand_of(stand), shown))
            for here in self.stands(street, stand):
                there = stand_of(here)
                self.assertIs(there[1] in rooms_at(other, stand_of(stand), there[0]), here[1] in rooms_at(street, stand, here[0]))
                self.assertIs(bars(shown, there), bars(told, here))

    def test_least_prices(self):
        for street, stand, other, stand_of, _ in self.carried():
            told, carried = numbers_of(street, stand), numbers_of(other, stand_of(stand))
            self.assertTrue(are_numbers(other, stand_of(stand), carried))
            for here in self.stands(street, stand):
                self.assertEqual(number_at(carried, *stand_of(here)), number_at(told, *here))
            for here in ((FAR - 99, street.right().rooms()[0]), (99 - FAR, street.left().rooms()[-1]), stand, (stand[0] + 1, "a")):
                way, its = way_to(street, stand, here), way_to(other, stand_of(stand), stand_of(here))
                self.assertEqual(way and way[0], its and its[0])

    def test_going_on_for_ever(self):
        for street, stand, other, stand_of, _ in self.carried():
            self.assertEqual(for_ever(street, stand)[0], for_ever(other, stand_of(stand))[0])

    def test_prices_by_houses(self):
        for street, stand, other, stand_of, _ in self.carried():
            turned_about = stand_of((1, "a"))[0] < stand_of((0, "a"))[0]
            for side in ("left", "right"):
                sort = street.left() if side == "left" else street.right()
                across = {"left": "right", "right": "left"}[side] if turned_about else side
                for room in sort.rooms():
                    one, its = rate(street, side, room), rate(other, across, stand_of((0, room))[1])
                    self.assertEqual([one[0]] + list(one[1:3] if one[0] == "price" else []),
                                     [its[0]] + list(its[1:3] if its[0] == "price" else []))

    def test_told_out_and_folded_are_unlike_at_no_house(self):
        for street, _ in pairs():
            self.assertIsNone(unlike(street, folded(street)))
            if len(street) < 8:
                for side in ("left", "right"):
                    self.assertIsNone(unlike(street, told_out(street, side)))
                    self.assertIsNone(unlike(folded(street), folded(told_out(street, side))))

    def test_fences_and_numbers_hold_for_streets_told_otherwise(self):
        # What is let by for a street is so for the same one told with one odd house less, or moved along with it.
        for street, stand in pairs():
            for thing, looks in ((fence(street, stand), is_fence), (numbers_of(street, stand), are_numbers)):
                self.assertTrue(looks(folded(street), stand, thing) or (len(folded(street)) == 0 and folded(street).first() != street.first()))
                near = moved(street, 5), (stand[0] + 5, stand[1])
                self.assertTrue(looks(*near, (thing[0] + 5, *thing[1:])))


class JustOne(unittest.TestCase):

    def test_a_way_or_a_bar(self):
        for street, stand in pairs():
            told = fence(street, stand)
            for house in (*range(stand[0] - 5, stand[0] + 6), FAR, -FAR):
                for room in street.sort_at(house).rooms():
                    way = way_to(street, stand, (house, room))
                    self.assertIs(way is None, bars(told, (house, room)))
                    if way is not None:
                        self.assertEqual(rows_gone(street, stand, way[1])[0], (house, room))

    def test_no_fence_that_is_let_by_bars_what_some_way_comes_to(self):
        let_by = 0
        for street, stand in pairs():
            chance = random.Random(repr(stand))
            told = fence(street, stand)
            for _ in range(10):
                lots_ = [tuple(sorted(set(lot) | {room for room in street.sort_at(told[0] + k).rooms() if chance.random() < 0.3}))
                         for k, lot in enumerate(told[1])]
                thing = (told[0], lots_, told[2], told[3])
                if is_fence(street, stand, thing):
                    let_by += 1
                    for house in range(told[0] - 9, told[0] + len(lots_) + 9):
                        for room in rooms_at(street, stand, house):
                            self.assertFalse(bars(thing, (house, room)))
        self.assertGreater(let_by, 40)


class Walls(unittest.TestCase):

    def test_a_door_walled_takes_stands_away_and_gives_none(self):
        taken = 0
        for street, stand in pairs():
            for place in places_of(street):
                near = {"left": street.first() - 1, "right": street.first() + len(street)}.get(place, place)
                for door in street.sort_at(near).doors()[:3]:
                    less = walled(street, place, door[0])
                    for house in (*range(stand[0] - 4, stand[0] + 5), 10 ** 9, -10 ** 9):
                        before, behind = set(rooms_at(street, stand, house)), set(rooms_at(less, stand, house))
                        self.assertLessEqual(behind, before)
                        taken += len(before - behind)
        self.assertGreater(taken, 100)

    def test_no_least_price_falls(self):
        for street, stand in pairs():
            told = numbers_of(street, stand)
            for place in ("left", "right"):
                for door in street.sort_at({"left": -99, "right": 99}[place]).doors()[:4]:
                    less = numbers_of(walled(street, place, door[0]), stand)
                    for house in (*range(stand[0] - 6, stand[0] + 7), 10 ** 9, -10 ** 9):
                        for room in street.sort_at(house).rooms():
                            number = number_at(less, house, room)
                            if number is not None:
                                self.assertGreaterEqual(number, number_at(told, house, room))


class Backward(unittest.TestCase):

    def test_from_there_just_where_from_here_at_the_same_price(self):
        told_backward = 0
        for seed in range(120):
            chance = random.Random(seed)
            rooms = list("abc")
            sorts = [Sort(rooms, [("d" + "abcdef"[k], chance.choice(rooms), chance.choice([-1, 0, 1]), chance.choice(rooms),
                                   chance.randint(1, 20)) for k in range(chance.randint(2, 5))]) for _ in range(chance.randint(2, 5))]
            street = Street(sorts[0], chance.randint(-30, 30), sorts[1:-1], sorts[-1])
            try:
                told = backward(street)
            except TooMany:
                continue
            told_backward += 1
            for _ in range(12):
                one, other = [(street.first() + chance.randint(-6, 9), chance.choice(rooms)) for _ in range(2)]
                way, back = way_to(street, one, other), way_to(told, other, one)
                self.assertEqual(way and way[0], back and back[0])
                self.assertIs(other[1] in rooms_at(street, one, other[0]), one[1] in rooms_at(told, other, one[0]))
        self.assertGreater(told_backward, 40)


class Order(unittest.TestCase):

    def questions(self, street, stand):
        """Each asks the street something, in all ways that it can be asked."""
        doors = [("left", door[0]) for door in street.left().doors()[:2]] + [("right", door[0]) for door in street.right().doors()[:1]]
        other = (stand[0] + 2, street.sort_at(stand[0] + 2).rooms()[0])
        far = (10 ** 11, street.right().rooms()[-1])
        walk = Walk(street, stand)
        for step in steps(street, stand)[:1]:
            walk.do(step)
        room = street.left().rooms()[0]
        told = [lambda: course(street, stand), lambda: fence(street, stand), lambda: numbers_of(street, stand), lambda: way_to(street, stand, far),
                lambda: way_to(street, stand, other), lambda: rate(street, "left", room), lambda: for_ever(street, stand),
                lambda: loops_out(street, "left"), lambda: first_comings(street, "right"), lambda: power(street, "left", 10 ** 20),
                lambda: comes_again(street, "right"), lambda: houses_with(street, stand, room, "left", street.first() - 9),
                lambda: next_with(street, stand, room, "left", street.first() - 9), lambda: lots(street, stand, other, doors),
                lambda: lot_paper(street, stand, other, doors, (0,) if doors else ()), lambda: show_walk(walk), lambda: walk.cheapest(stand),
                lambda: show_street(street), lambda: steps(street, stand), lambda: played(street, stand, steps(street, stand)[:1]),
                lambda: show_street(folded(street)), lambda: show_street(turned(street)), lambda: show_walk(read_walk(show_walk(walk))),
                lambda: walk.acts(), lambda: street.odd()[:0], lambda: price_of(street, stand, ()), lambda: unrolled(street, stand, ([], []))]
        return told

    def test_the_same_is_told_in_any_order(self):
        for k, (street, stand) in enumerate(pairs()):
            if k % 2:
                continue
            ahead = [shape(ask()) for ask in self.questions(street, stand)]
            order = list(range(len(ahead)))
            random.Random(k).shuffle(order)
            same = read_street(show_street(street))
            asks = self.questions(same, stand)
            told = {at: shape(asks[at]()) for at in order}
            self.assertEqual([told[at] for at in range(len(ahead))], ahead)
            asks = self.questions(street, stand)
            again = {at: shape(asks[at]()) for at in reversed(order)}
            self.assertEqual([again[at] for at in range(len(ahead))], ahead)
            self.assertEqual(street, same)

    def test_all_answers_hold(self):
        for street, stand in pairs():
            self.assertTrue(is_ever(street, stand, for_ever(street, stand)))
            for side in ("left", "right"):
                for room in (street.left() if side == "left" else street.right()).rooms():
                    self.assertTrue(is_rate(street, side, room, rate(street, side, room)))
            doors = [("left", door[0]) for door in street.left().doors()[:2]]
            other = (stand[0] + 1, street.sort_at(stand[0] + 1).rooms()[0])
            for lot in ((), (0,)) if doors else ((),):
                self.assertTrue(lot_holds(street, stand, other, doors, lot, lot_paper(street, stand, other, doors, lot)))

    def test_a_row_of_a_told_way_is_read_as_it_is_gone(self):
        for street, stand in pairs():
            for room in street.right().rooms():
                told = way_to(street, stand, (10 ** 6, room))
                if told is not None and told[1][0]:
                    rows, _ = told[1]
                    number = len(rows) - 1
                    side, _ = rows[number]
                    self.assertTrue(any(row_read(street, rows, number, begin) is not None for begin in street.right().rooms()))


if __name__ == "__main__":
    unittest.main()
