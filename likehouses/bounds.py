"""The bounds that the document tells, each by its name.

Of a sort of house: how many rooms and doors, and a door's price. Of a street:
how many odd houses, and how far from 0 its first is; how far a first stand's
house. Of a way in rows: how many rows, how many times a part. Of a fence and
of numbers: how far from 0 their first is, how long the stretch, how long a
round. Then of how many doors a question of lots is, and how many steps a way
is unrolled to where nothing else is told.
"""

MOST_ROOMS = 6
MOST_DOORS = 12
MOST_PRICE = 99
MOST_ODD = 8
FAR_FIRST = 50
FAR_STAND = 60
MOST_ROWS = 2000
MOST_TIMES = 10 ** 60
FAR_FENCE = 999
MOST_STRETCH = 999
MOST_ROUND = 60
MOST_LOTS = 6
MOST_SPOTS = 2000
