"""The search for a run that breaks a wish."""

from looptimes.marks import BROKEN, first_mark, is_rest_broken, mark_behind
from looptimes.webs import Web, told_events, way_to


class Search:
    """Goes through the pairs (number of a standing, mark) of a program, the nearest first."""

    def __init__(self, program, wish):
        self.web = Web(program)
        self.wish = wish
        self.pairs = []
        self.ways = {}
        self._find((0, first_mark(wish)), None)

    def broken_run(self):
        """Return the events of a shortest run that breaks the wish, or None if there is none."""
        at = 0
        while at < len(self.pairs):
            chain = self._chain_at(self.pairs[at])
            if chain is not None:
                return told_events(chain)
            at = at + 1
        return None

    def found_pairs(self):
        """Return the pairs (standing, mark) that have been found."""
        return [(self.web.standings[number], mark) for number, mark in self.pairs]

    def _find(self, pair, way):
        if pair not in self.ways:
            self.ways[pair] = way
            self.pairs.append(pair)

    def _chain_at(self, pair):
        """Return the steps by which the wish is broken at the pair or just behind it; None if it is not."""
        number, mark = pair
        if is_rest_broken(self.web.program, self.wish, self.web.standings[number]):
            return way_to(self.ways, pair)[1]
        word = self.web.words[number]
        for event, time, after in self.web.arrows_from(number):
            behind = mark_behind(self.wish, mark, time, word)
            if behind == BROKEN:
                return [*way_to(self.ways, pair)[1], event]
            self._find((after, behind), (pair, event))
        return None
