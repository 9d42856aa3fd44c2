"""The stretches from an event that says one word to the next one that says another."""

from looptimes.webs import way_to, ways_from


class Stretches:
    """The stretches in a web from the word `first` (None: from the beginning) to the word `last`.

    `starts` are the numbers of the standings at which one can begin, `inside` those of the standings
    in them from which the last word can be reached, `ends` those at which it is said next.
    """

    def __init__(self, web, first, last):
        self.web = web
        self.first = first
        self.last = last
        self.ways = ways_from(web, self._beginnings(), last)
        self.inside = self._leading_on()
        self.starts = [number for number in self._beginnings() if number in self.inside]
        self.ends = [number for number in self.inside if web.words[number] == last]

    def graph_within(self, graph):
        """Return the part of the graph that belongs to steps inside that do not say the last word."""
        out = [[] for _ in graph]
        for number in self.inside:
            if self.web.words[number] != self.last:
                out[number] = [arrow for arrow in graph[number] if arrow[0] in self.inside]
        return out

    def steps_ahead(self, begin):
        """Return the events up to the beginning of a stretch at the standing."""
        if self.first is None:
            return []
        ways = ways_from(self.web, [0], None)
        sayers = [number for number in ways if self.web.words[number] == self.first]
        ahead = [number for number in sayers if self._behind_word(number) == begin]
        return self._said_behind(ways, ahead[0])

    def steps_to(self, number):
        """Return where a stretch can begin that comes to the standing, and the events from there to it."""
        return way_to(self.ways, number)

    def steps_on(self, number):
        """Return the events from the standing to the end of a stretch."""
        ways = ways_from(self.web, [number], self.last)
        ends = [end for end in ways if self.web.words[end] == self.last]
        return self._said_behind(ways, ends[0])

    def _said_behind(self, ways, number):
        """Return the events of the way to a standing, and the one behind it that says a word."""
        return [*way_to(ways, number)[1], self.web.arrows_from(number)[0][0]]

    def _beginnings(self):
        """Return all numbers of standings behind the first word."""
        if self.first is None:
            return [0]
        found = {}
        for number, word in enumerate(self.web.words):
            if word == self.first:
                found[self._behind_word(number)] = True
        return list(found)

    def _behind_word(self, number):
        """Return the number of the standing to which the only step leads, which says a word."""
        return self.web.arrows_from(number)[0][2]

    def _leading_on(self):
        """Return those of the ways from which steps lead to the last word, as a dict of True."""
        ahead = {number: [] for number in self.ways}
        found = {}
        for number in self.ways:
            if self.web.words[number] == self.last:
                found[number] = True
            else:
                for _, _, after in self.web.arrows_from(number):
                    ahead[after].append(number)
        queue = list(found)
        while len(queue) > 0:
            number = queue.pop()
            for before in ahead[number]:
                if before not in found:
                    found[before] = True
                    queue.append(before)
        return found
