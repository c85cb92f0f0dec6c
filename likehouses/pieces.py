"""Pieces: least prices of all houses out on a side, told in rounds that grow evenly."""

from likehouses.bounds import MOST_ROUND
from likehouses.prices import led_on


def _rows_behind(row, prices, many):
    """So many rows of prices, one house behind another."""
    rows = []
    for _ in range(many):
        row = led_on(row, prices)
        rows.append(row)
    return rows


def _bound(row, more, led, rise, prices):
    """How many more times a row leads to the led one, all of them growing; None for ever.

    At first it does. A room's number does it as long as some number grows with
    it that is least at first, and no number that grows less is less.
    """
    bound = None
    for goal in led:
        kept = False
        for room in row:
            if goal in prices[room]:
                above = row[room] + prices[room][goal] - led[goal]
                slower = rise[goal] - more[room]
                kept = kept or above == slower == 0
                if slower > 0 and (bound is None or above // slower < bound):
                    bound = above // slower
        if not kept:
            return 0
    return bound


def _piece(rows, many, prices):
    """The longest piece of rounds of so many of the rows, which go on twice as far at the least."""
    if sorted(rows[0]) != sorted(rows[many]):
        return 1, rows[:many], [{room: 0 for room in row} for row in rows[:many]]
    more = [{room: rows[many + k][room] - rows[k][room] for room in rows[k]} for k in range(many)]
    bound = None
    for k in range(many):
        least = _bound(rows[k], more[k], rows[k + 1], more[(k + 1) % many], prices)
        if least is not None and (bound is None or least < bound):
            bound = least
    if bound is None:
        return None, rows[:many], more
    # What is added is what the second time has more, so two times always hold.
    return max(2, bound + 1), rows[:many], more


def _how_long(piece):
    times, rows, _ = piece
    return times * len(rows)


def _may_go_on(rows, many):
    """Whether rounds of so many rows look as if they went on for more than two times."""
    now, then, later = rows[0], rows[many], rows[2 * many]
    if not sorted(now) == sorted(then) == sorted(later):
        return False
    return all([later[room] - then[room] == then[room] - now[room] for room in now])


def _longest_piece(row, prices):
    """The piece behind a row of prices that goes furthest; the shortest of those that go on for ever."""
    rows = _rows_behind(row, prices, 2 * MOST_ROUND + 1)
    pieces = []
    for many in range(1, MOST_ROUND + 1):
        # Least prices come again by rings of one to six rooms, and all of these
        # go into the last of the lengths: it is tried in any case.
        if many == MOST_ROUND or _may_go_on(rows, many):
            piece = _piece(rows, many, prices)
            if piece[0] is None:
                return piece
            pieces.append(piece)
    return max(pieces, key=_how_long)


def pieces_out(row, prices):
    """The pieces of all houses further out than one with a row of prices, by those of strides."""
    pieces = []
    while True:
        times, rows, more = _longest_piece(row, prices)
        pieces.append((times, rows, more))
        if times is None:
            return pieces
        row = {room: rows[-1][room] + (times - 1) * more[-1][room] for room in rows[-1]}
