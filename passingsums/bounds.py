"""The greatest numbers that books, weavings, records and halls may have."""

MAX_CELLS = 8
MAX_ROWS = 8
MAX_TIMES = 1000000
MAX_RUNS = 100
MAX_DEEDS = 6
MAX_DONE = 40
MAX_READERS = 8
