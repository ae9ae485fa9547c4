"""The search for the worst entries."""

from heapq import heappop, heappush

from firstneed.errors import TooMany
from firstneed.whole.looms import Worst


class Search:
    """The worst entries of terms. Smaller terms are looked at first.

    Each entry that is met and not covered has a number, and a row of a sign and of numbers of which it is made.
    """

    def __init__(self, looms, limit):
        self.looms = looms
        self.limit = limit
        self.worst = Worst()
        self.met = []
        self.rows = []
        self.sizes = []
        self.queue = []
        self.pushed = 0
        self.push(looms.beginnings())

    def run_out(self):
        """Looks for entries until no further ones come."""
        going = True
        while going:
            going = self.step_on()

    def step_on(self):
        """Looks for one further entry, and tells whether there is one."""
        while len(self.queue) > 0:
            _, _, entry, sign, numbers = heappop(self.queue)
            if self.worst.take(entry, len(self.rows)):
                self.meet_entry(entry, sign, numbers)
                return True
        return False

    def meet_entry(self, entry, sign, numbers):
        """Keeps a further entry, and puts into the queue what is made of it."""
        if self.worst.count > self.limit:
            raise TooMany(self.limit)
        self.met.append(entry)
        self.rows.append((sign, numbers))
        self.sizes.append(self.size_of(numbers))
        self.push(self.looms.fed(entry, len(self.rows) - 1))

    def size_of(self, numbers):
        """The number of the nodes of a term that is made of these."""
        return 1 + sum([self.sizes[number] for number in numbers])

    def push(self, triples):
        """Puts what is made into the queue, by the sizes of the terms."""
        for entry, sign, numbers in triples:
            # The count keeps entries themselves from being compared.
            self.pushed += 1
            heappush(self.queue, (self.size_of(numbers), self.pushed, entry, sign, numbers))
