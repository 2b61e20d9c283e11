"""The greatest numbers that borders, rooms, sizes and tables may have."""

MOST_SIGNS = 5
MOST_PIECES = 8
MOST_CORNERS = 12
MOST_NAMES = 4
MOST_LONG = 6
MOST_COST = 9
MOST_SIDES = 12
MOST_PLUS = 9
MOST_SIZE = 10 ** 30
MOST_TABLE = 900
MOST_WAYS = 60
MOST_LINES = 4
