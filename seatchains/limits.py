"""The limits of the program."""

MAX_SEATS = 20
MAX_TRIPS = 24
FEW_PLANS = 2000
MAX_ENTRIES = 100
