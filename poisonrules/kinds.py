"""The numbers that stand for worths which are no numbers, and what is taken where none is told."""

ANY = -1
BAD = -2
FAULT = -3
WIDTH = 2
MOST = 200
