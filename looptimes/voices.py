"""What programs can say next, whatever else happens in between."""

from looptimes.webs import whole_web


class Voices:
    """The standings of programs at which a word is said next, each with a bit of its own.

    A mask is an integer that stands for a set of them. For the bit k, `said[k]` is the word, and
    `behind[k]` the mask of those to which steps lead from there that say nothing else.
    """

    def __init__(self):
        self.said = []
        self.behind = []
        self.known = {}

    def joined(self, program):
        """Take in a program; return the mask of what it says first."""
        web = whole_web(program)
        bits = {}
        for number, word in enumerate(web.words):
            if word is not None:
                bits[number] = 1 << len(self.said)
                self.said.append(word)
        for number in bits:
            self.behind.append(_mask_from(web, bits, web.arrows_from(number)[0][2]))
        return _mask_from(web, bits, 0)

    def next_masks(self, mask):
        """Return a dict from the words that can be said next to the masks behind them."""
        if mask not in self.known:
            masks = {}
            rest = mask
            while rest > 0:
                bit = rest.bit_length() - 1
                rest = rest - (1 << bit)
                masks[self.said[bit]] = masks.get(self.said[bit], 0) | self.behind[bit]
            self.known[mask] = masks
        return self.known[mask]


def _mask_from(web, bits, root):
    """Return the mask of the standings to which silent steps lead from the root."""
    found = {root: True}
    queue = [root]
    mask = 0
    while len(queue) > 0:
        number = queue.pop()
        if number in bits:
            mask = mask | bits[number]
        else:
            for _, _, after in web.arrows_from(number):
                if after not in found:
                    found[after] = True
                    queue.append(after)
    return mask


class Classes:
    """Masks that have been found to stand for the same, as far as has been seen."""

    def __init__(self):
        self.above = {}

    def unite(self, one, two):
        """Let two masks stand for the same; tell whether this is new."""
        top, other = self._top(one), self._top(two)
        if top == other:
            return False
        self.above[top] = other
        return True

    def _top(self, mask):
        top = mask
        while top in self.above:
            top = self.above[top]
        # Later ways to the top are short.
        while mask != top:
            following = self.above[mask]
            self.above[mask] = top
            mask = following
        return top
