"""A hall: cells, the deeds that are done in them, and the readers that go through them."""

from passingsums.books import is_tuple_of, is_tuple_within, is_within, order_error
from passingsums.bounds import MAX_DONE, MAX_READERS
from passingsums.errors import BadEntry, NoReader, SumsError, TooMany, Unfit

MAX_HELD = 100000000


class Reader:
    """One who goes through the blocks of an order: when it was started, what it told, and when it read that."""

    def __init__(self, order, begin, since):
        self.order = order
        self.begin = begin
        self.since = since
        self.told = []
        self.places = []


class Hall:
    """Cells in which deeds are done while readers go through them."""

    def __init__(self, book, begin):
        many, _ = book
        if not is_tuple_within(begin, many, MAX_HELD):
            raise Unfit()
        self.cells = begin
        self.total = sum(begin)
        self.readers = 0
        self.log = ()
        self._book = book
        self._deeds = []
        self._totals = [self.total]
        self._all_readers = []

    def do(self, deed):
        """Do the deed, and return the total then."""
        _, rows = self._book
        if not is_within(deed, 0, len(rows) - 1):
            raise Unfit()
        if len(self._deeds) == MAX_DONE:
            raise TooMany(MAX_DONE)
        self.cells = tuple([held + item for held, item in zip(self.cells, rows[deed])])
        self.total = sum(self.cells)
        self._deeds.append(deed)
        self._totals.append(self.total)
        self.log = self.log + (("do", deed),)
        return self.total

    def start(self, order):
        """Start a reader with this order, and return its number."""
        many, _ = self._book
        if order_error(many, order) is not None:
            raise Unfit()
        if self.readers == MAX_READERS:
            raise TooMany(MAX_READERS)
        self._all_readers.append(Reader(order, self.cells, len(self._deeds)))
        self.readers = len(self._all_readers)
        self.log = self.log + (("start", order),)
        return self.readers - 1

    def step(self, reader):
        """Let the reader read its next block, and return the sum of the block's cells."""
        found = self._reader(reader)
        if len(found.told) == len(found.order):
            raise Unfit()
        block_sum = sum([self.cells[cell] for cell in found.order[len(found.told)]])
        found.told.append(block_sum)
        found.places.append(len(self._deeds))
        self.log = self.log + (("step", reader),)
        return block_sum

    def read(self, reader):
        """Return the sum of all that the reader told so far."""
        return sum(self._reader(reader).told)

    def span(self, reader):
        """Return the least and the greatest total that stood from the reader's first reading to its last one."""
        places = self._reader(reader).places
        if len(places) == 0:
            raise Unfit()
        totals = self._totals[places[0]:places[-1] + 1]
        return (min(totals), max(totals))

    def record_of(self, reader):
        """Return the record of a reader that has read all its blocks."""
        found = self._reader(reader)
        if len(found.told) < len(found.order):
            raise Unfit()
        return (found.begin, tuple(self._deeds[found.since:]), tuple(found.told))

    def _reader(self, reader):
        """Return the reader with this number; raise NoReader(reader) if there is none."""
        if not is_within(reader, 0, self.readers - 1):
            raise NoReader(reader)
        return self._all_readers[reader]


def hall_behind(book, begin, log):
    """Return a new hall in which all that log tells was done; raise BadEntry(place) for the first that can't be."""
    hall = Hall(book, begin)
    if not isinstance(log, tuple):
        raise BadEntry(0)
    for place, entry in enumerate(log):
        if not _is_done(hall, entry):
            raise BadEntry(place)
    return hall


def _is_done(hall, entry):
    """Do in the hall what the entry tells, and return whether it could be done."""
    if not is_tuple_of(entry, 2):
        return False
    word, argument = entry
    try:
        if word == "do":
            hall.do(argument)
        elif word == "start":
            hall.start(argument)
        elif word == "step":
            hall.step(argument)
        else:
            return False
    except SumsError:
        return False
    return True
