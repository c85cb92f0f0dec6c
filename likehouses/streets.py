"""Sorts of house, the streets made of them, and the places of a street."""


def _plain_door(door):
    # A door may be of a class made from tuple, its parts of ones made from str
    # and int; what is told of it later is of just these kinds.
    name, room, move, goal, price = door
    return (str(name), str(room), int(move), str(goal), int(price))


class Sort:
    """A sort of house: its rooms and its doors, each kept in one order."""

    def __init__(self, rooms, doors):
        self._rooms = sorted([str(room) for room in rooms])
        self._doors = sorted([_plain_door(door) for door in doors])

    def __eq__(self, other):
        return isinstance(other, Sort) and self._rooms == other._rooms and self._doors == other._doors

    def rooms(self):
        """The names of its rooms, rising."""
        return list(self._rooms)

    def doors(self):
        """Its doors, rising by their names."""
        return list(self._doors)


def _same_sort(sort):
    return Sort(sort.rooms(), sort.doors())


class Street:
    """A street: a left sort, a row of odd ones from house first on, a right sort."""

    def __init__(self, left, first, odd, right):
        self._left = _same_sort(left)
        self._first = int(first)
        self._odd = [_same_sort(sort) for sort in odd]
        self._right = _same_sort(right)

    def __eq__(self, other):
        return (isinstance(other, Street) and self._first == other._first and self._left == other._left
                and self._odd == other._odd and self._right == other._right)

    def __len__(self):
        return len(self._odd)

    def left(self):
        """The sort of all houses ahead of first."""
        return _same_sort(self._left)

    def right(self):
        """The sort of all houses behind the odd ones."""
        return _same_sort(self._right)

    def odd(self):
        """The sorts of the odd houses, in their row."""
        return [_same_sort(sort) for sort in self._odd]

    def first(self):
        """The house where the odd ones begin; without any, where the right side does."""
        return self._first

    def sort_at(self, house):
        """The sort of a house, however far."""
        place = house - self._first
        if place < 0:
            return _same_sort(self._left)
        if place < len(self._odd):
            return _same_sort(self._odd[place])
        return _same_sort(self._right)


def places_of(street):
    """The word left, the odd houses' numbers, rising, and the word right."""
    first = street.first()
    return ["left"] + [first + k for k in range(len(street))] + ["right"]
