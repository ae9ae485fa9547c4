"""The search for the worst entries of a book."""

from heapq import heappop, heappush

from firstneed.errors import TooMany
from firstneed.whole.looms import Looms, Worst


class Search:
    """The worst entries of the terms of a book. Smaller terms are looked at first.

    Each entry that is met and not covered has a number, and a row of a sign and of numbers of which it is made.
    """

    def __init__(self, maker, roots, limit):
        self.looms = Looms(maker, roots)
        self.limit = limit
        self.worst = Worst()
        self.rows = []
        self.sizes = []
        self.first_bad = None
        self.queue = []
        self.pushed = 0

    def run(self, is_open):
        """Looks for entries until no further ones come."""
        self.push(self.looms.beginnings(is_open))
        while len(self.queue) > 0:
            _, _, entry, sign, numbers = heappop(self.queue)
            number = len(self.rows)
            if self.worst.take(entry, number):
                self.rows.append((sign, numbers))
                self.sizes.append(self.size_of(numbers))
                self.note(entry, number)
                self.push(self.looms.fed(entry, number))

    def size_of(self, numbers):
        """The number of the nodes of a term that is made of these."""
        return 1 + sum([self.sizes[number] for number in numbers])

    def push(self, triples):
        """Puts what is made into the queue, by the sizes of the terms."""
        for entry, sign, numbers in triples:
            # The count keeps entries themselves from being compared.
            self.pushed += 1
            heappush(self.queue, (self.size_of(numbers), self.pushed, entry, sign, numbers))

    def note(self, entry, number):
        """Tells when there are too many entries, and keeps the first bad one."""
        if self.worst.count > self.limit:
            raise TooMany(self.limit)
        _, flag, _, around = entry
        if self.first_bad is None and flag and all([state[1] != 0 for state in around]):
            self.first_bad = number
