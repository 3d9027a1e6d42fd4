"""The numbers that stand for refusals."""

NO_SUCH_NUMBER = -3
OUT_OF_RANGE = -7
NO_ROOM = -9
NO_WAY = -10
WRONG_ROW = -12
