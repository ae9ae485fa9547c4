"""The states at the nodes of the sketches of a book."""

from firstneed.need.making import LEAST, is_within, sites_in, union_of


class Closing:
    """The states of a table, by pairs of a rule and a place. They only grow."""

    def __init__(self, maker, rows):
        self.maker = maker
        self.sites = [site for rule, nodes in enumerate(maker.sketch_nodes) for site in sites_in(nodes, (rule,))]
        self.rows = {key: rows.get(key, LEAST) for key, _, _ in self.sites}

    def roots(self):
        """The states of the sketches."""
        return [self.rows[(rule, 0)] for rule in range(len(self.maker.sketch_nodes))]

    def made_at(self, site):
        """What is made at a node of the states at its arguments."""
        _, sign, below = site
        return self.maker.made(sign, [self.rows[key] for key in below], self.roots())

    def has_all(self):
        """Whether all that is made is there."""
        return all([is_within(self.made_at(site), self.rows[site[0]]) for site in self.sites])

    def close(self):
        """Puts in all that is made, until nothing comes."""
        going = True
        while going:
            going = False
            for site in self.sites:
                if not is_within(self.made_at(site), self.rows[site[0]]):
                    self.rows[site[0]] = union_of(self.rows[site[0]], self.made_at(site))
                    going = True


def closed_from(maker, rows):
    """The least closed states that have at least these, told by a dict in which some can be missing."""
    closing = Closing(maker, rows)
    closing.close()
    return closing


def least_roots(maker):
    """The states of the sketches by the least table."""
    return closed_from(maker, {}).roots()
