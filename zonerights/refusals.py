"""The numbers that refused calls answer."""

NOT_AS_TOLD = -1
NO_HOUSE = -2
NOT_THERE = -3
NOT_FITTING = -4
FULL = -5
TOO_DEAR = -6
NOT_SAFE = -7
NOT_FITTING_FLOWS = -8
