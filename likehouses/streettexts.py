"""The text of a street, written and read row by row."""

from likehouses.bounds import FAR_FIRST, MOST_DOORS, MOST_ODD, MOST_PRICE, MOST_ROOMS
from likehouses.errors import NoText
from likehouses.figures import number_in
from likehouses.kinds import is_name
from likehouses.streets import Sort, Street


def _house_rows(word, sort):
    rows = [f"house {word}"]
    for room in sort.rooms():
        rows.append(f"room {room}")
    for name, room, move, goal, price in sort.doors():
        rows.append(f"door {name} {room} {move} {goal} {price}")
    return rows


def show_street(street):
    """The text of a street, row by row."""
    first = street.first()
    rows = [f"first {first}"] + _house_rows("left", street.left())
    for sort in street.odd():
        rows = rows + _house_rows("odd", sort)
    return "\n".join(rows + _house_rows("right", street.right()))


def _rises(names, name):
    """Whether a name may stand behind those of a rising row."""
    return is_name(name) and (not names or names[-1] < name)


class Draft:
    """The rows so far of a street's text."""

    def __init__(self):
        self._begin = None
        self._houses = []

    def take(self, row):
        """Whether some street's text goes on with this row behind those taken; if so, it is taken."""
        word, *words = row.split(" ")
        if self._begin is None:
            return word == "first" and self._take_first(words)
        if word == "house":
            return self._take_house(words)
        if not self._houses:
            return False
        return (word == "room" and self._take_room(words)) or (word == "door" and self._take_door(words))

    def _take_first(self, words):
        if len(words) != 1:
            return False
        self._begin = number_in(words[0], -FAR_FIRST, FAR_FIRST)
        return self._begin is not None

    def _next_houses(self):
        """The words of the houses that may come now."""
        if not self._houses:
            return ["left"]
        word, rooms, _ = self._houses[-1]
        if word == "right" or not rooms:
            return []
        # The left house and all odd ones are there.
        if len(self._houses) == 1 + MOST_ODD:
            return ["right"]
        return ["odd", "right"]

    def _take_house(self, words):
        if len(words) != 1 or words[0] not in self._next_houses():
            return False
        self._houses.append((words[0], [], []))
        return True

    def _take_room(self, words):
        _, rooms, doors = self._houses[-1]
        if len(words) != 1 or doors or len(rooms) == MOST_ROOMS or not _rises(rooms, words[0]):
            return False
        rooms.append(words[0])
        return True

    def _take_door(self, words):
        _, rooms, doors = self._houses[-1]
        if len(words) != 5 or len(doors) == MOST_DOORS:
            return False
        name, room, move, goal, price = words
        door = (name, room, number_in(move, -1, 1), goal, number_in(price, 1, MOST_PRICE))
        if not _rises([other[0] for other in doors], name) or room not in rooms or not is_name(goal):
            return False
        if door[2] is None or door[4] is None:
            return False
        doors.append(door)
        return True

    def whole(self):
        """Whether the rows so far are all of a street's text."""
        if not self._houses:
            return False
        word, rooms, _ = self._houses[-1]
        return word == "right" and rooms != []

    def street(self):
        """The street of a whole text."""
        sorts = [Sort(rooms, doors) for _, rooms, doors in self._houses]
        return Street(sorts[0], self._begin, sorts[1:-1], sorts[-1])


def read_street(text):
    """The street that is so written; of anything else NoText with its first wrong row."""
    if not isinstance(text, str):
        raise NoText(0)
    draft = Draft()
    rows = text.split("\n")
    for at, row in enumerate(rows):
        if not draft.take(row):
            raise NoText(at)
    if not draft.whole():
        raise NoText(len(rows))
    return draft.street()
