"""The text of a walk, written and read row by row."""

from likehouses.bounds import FAR_STAND, MOST_ROWS, MOST_TIMES
from likehouses.errors import NoName, NoStep, NoText, NoWay, TooFar, TooMany
from likehouses.figures import number_in
from likehouses.rows import are_items
from likehouses.streets import places_of
from likehouses.streettexts import Draft, show_street
from likehouses.walk import Walk


def _row_of(words, listed):
    """A row of words and the items behind them."""
    told = list(words)
    for item in listed:
        if isinstance(item, str):
            told.append(item)
        else:
            number, times = item
            told.append(f"{number}*{times}")
    return " ".join(told)


def _act_rows(act):
    if act[0] == "leap":
        rows, listed = act[1]
        many = len(rows)
        return [f"leap {many}"] + [_row_of(["row", side], row) for side, row in rows] + [_row_of(["way"], listed)]
    return [" ".join([str(part) for part in act])]


def show_walk(walk):
    """The text of a walk, row by row."""
    house, room = walk.stand_at(moment=0)
    rows = [show_street(walk.street_at(moment=0)), f"at {house} {room}"]
    for act in walk.acts():
        rows.extend(_act_rows(act))
    return "\n".join(rows)


def _item_of(word):
    """The item that is so written; of no item something that is none."""
    number, star, times = word.partition("*")
    if star == "":
        return word
    return number_in(number, 0, MOST_ROWS), number_in(times, 1, MOST_TIMES)


def _items_of(words, sides, side):
    """The items that are so written, as are_items looks at them, or None where one is wrong."""
    listed = [_item_of(word) for word in words]
    if not are_items(listed, sides, side):
        return None
    return listed


class Journal:
    """The rows so far of a walk's text, and the walk that did what they tell."""

    def __init__(self):
        self._draft = Draft()
        self._walk = None
        # Of a leap that was begun: how many rows it has, and those so far.
        self._many = None
        self._rows = []

    def take(self, row):
        """Whether some walk's text goes on with this row behind those taken; if so, it is taken."""
        if self._walk is None:
            return self._draft.take(row) or (self._draft.whole() and self._take_at(row))
        word, *words = row.split(" ")
        if self._many is None:
            return self._take_act(word, words)
        if len(self._rows) < self._many:
            return word == "row" and self._take_row(words)
        return word == "way" and self._take_way(words)

    def _take_at(self, row):
        word, *words = row.split(" ")
        if word != "at" or len(words) != 2:
            return False
        house = number_in(words[0], -FAR_STAND, FAR_STAND)
        street = self._draft.street()
        if house is None or words[1] not in street.sort_at(house).rooms():
            return False
        self._walk = Walk(street, (house, words[1]))
        return True

    def _take_act(self, word, words):
        if word == "leap" and len(words) == 1:
            self._many = number_in(words[0], 0, MOST_ROWS)
            return self._many is not None
        try:
            return self._done(word, words)
        except (NoStep, NoName, TooMany, TooFar):
            return False

    def _done(self, word, words):
        """Whether the words are an act; if so, it is done, or refused."""
        if word == "do" and len(words) == 1:
            self._walk.do(words[0])
        elif word == "wall" and len(words) == 2:
            places = [place for place in places_of(self._walk.street_at()) if str(place) == words[0]]
            if not places:
                return False
            self._walk.wall(places[0], words[1])
        elif word == "out" and words in (["left"], ["right"]):
            self._walk.out(words[0])
        else:
            return False
        return True

    def _take_row(self, words):
        if not words or words[0] not in ("left", "right"):
            return False
        listed = _items_of(words[1:], [side for side, _ in self._rows], words[0])
        if listed is None:
            return False
        self._rows.append((words[0], listed))
        return True

    def _take_way(self, words):
        listed = _items_of(words, [side for side, _ in self._rows], None)
        if listed is None:
            return False
        try:
            self._walk.leap((self._rows, listed))
        except (NoWay, TooFar):
            return False
        self._many = None
        self._rows = []
        return True

    def walk(self):
        """The walk of a whole text; None where the rows so far are no whole one."""
        return self._walk if self._many is None else None


def read_walk(text):
    """The walk that is so written; of anything else NoText with its first wrong row."""
    if not isinstance(text, str):
        raise NoText(0)
    journal = Journal()
    rows = text.split("\n")
    for at, row in enumerate(rows):
        if not journal.take(row):
            raise NoText(at)
    walk = journal.walk()
    if walk is None:
        raise NoText(len(rows))
    return walk
