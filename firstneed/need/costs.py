"""What it costs to show facts."""

from firstneed.base.words import ANY, LOST
from firstneed.need.facts import CAN, RES, RULE, uses_of
from firstneed.need.heads import both_costs, least_choices, numbers_in


class Costs:
    """The least costs of the facts at all places, and what they come of.

    A fact costs more than each of those that it comes of. Costs are either heights of lines, or numbers of nodes:
    those with which a way begins, and those that its steps put in.
    """

    def __init__(self, maker, spots, adds):
        self.maker = maker
        self.spots = spots
        self.adds = adds
        self.found = {}
        self.settle(spots.rule_sites)
        self.settle(spots.term_sites)

    def settle(self, sites):
        """Works out the facts at these sites, until no cost becomes less."""
        for place, sign, _ in sites:
            self.found[place] = self.leaf_offers() if sign == ANY else {}
        inner = [site for site in sites if site[1] not in (ANY, LOST)]
        going = True
        while going:
            going = False
            for place, sign, below in inner:
                offers = self.offers(self.maker.frame.heads[sign], below)
                for fact, offer in offers:
                    going = self.take(place, fact, offer) or going

    def take(self, place, fact, offer):
        """Keeps an offer if it costs less than what there is, and tells whether it does."""
        known = self.found[place]
        if fact in known and known[fact][0] <= offer[0]:
            return False
        known[fact] = offer
        return True

    def leaf_offers(self):
        """All facts, as they hold of a leaf for anything."""
        sizes = {(CAN, part): len(nodes) for part, nodes in enumerate(self.maker.frame.part_nodes)}
        for bits, row in self.maker.grown.items():
            sizes[(RES, numbers_in(bits))] = row[0]
        return {fact: (size if self.adds else 1, None, ()) for fact, size in sizes.items()}

    def offers(self, head, below):
        """The pairs of a fact and of an offer at a symbol with arguments at these places.

        An offer is a cost, the rule or None, and the pairs of a place and a fact that the fact comes of.
        """
        found = self.results_offered(head, below)
        for part, row in head.part_rows.items():
            cost = self.row_cost(row, below)
            if cost is not None:
                found.append(((CAN, part), (cost + 1, None, uses_of(row, below))))
        for rule, row in head.rule_rows.items():
            cost = self.row_cost(row, below)
            if cost is not None:
                found.extend(self.fired_offers(rule, cost, uses_of(row, below)))
        return found

    def row_cost(self, row, below):
        """What it costs that arguments have what a row asks of them, or None if one of them cannot."""
        total = 0
        for place, part in zip(below, row):
            fact = (CAN, part)
            if part is not None and fact not in self.found[place]:
                return None
            cost = self.idle_cost(place) if part is None else self.found[place][fact][0]
            total = both_costs(total, cost, self.adds)
        return total

    def idle_cost(self, place):
        """What it costs to leave a part as it is."""
        return len(self.spots.nodes_at(place)) if self.adds else 0

    def fired_offers(self, rule, cost, uses):
        """What comes of a rule, if it costs so much to let it fire."""
        root = (RULE, rule, 0)
        rows = self.found[root]
        return [(fact, (both_costs(cost, rows[fact][0], self.adds) + 1, rule, (*uses, (root, fact)))) for fact in rows]

    def results_offered(self, head, below):
        """The results that are put together without a step."""
        options = [self.result_options(head, at, place) for at, place in enumerate(below)]
        found = []
        for mask, (cost, facts) in least_choices(head.whole, options, self.adds).items():
            if not head.is_redex(mask):
                fact = (RES, numbers_in(head.parts_at(mask)))
                found.append((fact, (cost + 1, None, tuple(zip(below, facts)))))
        return found

    def result_options(self, head, at, place):
        """The classes of the results at an argument, each with the items that it leaves and its cost."""
        rows = self.found[place]
        passed = {row: head.passing(at, bits) for row, bits in zip(self.maker.classes, self.maker.class_sets)}
        return [(passed[fact[1]], rows[fact][0], fact) for fact in rows if fact[0] == RES]

    def lines_of(self, place, fact):
        """The lines that show a fact with the least cost: the last one tells it."""
        wanted = {(place, fact): True}
        waiting = [(place, fact)]
        while waiting:
            at, known = waiting.pop()
            for use in self.found[at][known][2]:
                if use not in wanted:
                    wanted[use] = True
                    waiting.append(use)
        # What a fact comes of costs less than the fact.
        ranked = sorted([(self.found[at][known][0], at, known) for at, known in wanted])
        numbers = {(at, known): number for number, (_, at, known) in enumerate(ranked)}
        return tuple([self.line_of(at, known, numbers) for _, at, known in ranked])

    def line_of(self, place, fact, numbers):
        """The line of a fact; lines are told by their numbers."""
        _, rule, uses = self.found[place][fact]
        return (place, fact, rule, tuple([numbers[use] for use in uses]))
