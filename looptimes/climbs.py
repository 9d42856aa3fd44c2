"""Greatest sums along the ways of a graph.

A graph is a list: graph[n] is the list of the pairs (target, gain) of the arrows from n.
"""


def order_from(graph, roots):
    """Return what is reached from the roots in an order in which few arrows lead back."""
    begun = [False for _ in graph]
    out = []
    for root in roots:
        path = []
        if not begun[root]:
            begun[root] = True
            path.append([root, 0])
        while len(path) > 0:
            number, at = path[-1]
            if at == len(graph[number]):
                out.append(number)
                path.pop()
            else:
                path[-1][1] = at + 1
                target = graph[number][at][0]
                if not begun[target]:
                    begun[target] = True
                    path.append([target, 0])
    return out[::-1]


class Climb:
    """Raises heights until along each arrow they grow at least by its gain.

    `heights[n]` is an integer, or None if n has not been reached; `parents[n]` is that from which
    n got its height, or None if it has the one from the beginning.
    """

    def __init__(self, graph, order, heights):
        self.graph = graph
        self.order = order
        self.heights = list(heights)
        self.parents = [None for _ in graph]
        self.fresh = [height is not None for height in heights]

    def circles(self):
        """Raise the heights; return [] at the end, or circles with a sum above 0, as soon as there are some."""
        raised = True
        while raised:
            raised = False
            for number in self.order:
                if self.fresh[number] and self._raise_from(number):
                    raised = True
            found = self._parent_circles()
            if len(found) > 0:
                return found
        return []

    def _raise_from(self, number):
        """Raise the heights at the ends of the arrows; tell whether there was a need."""
        self.fresh[number] = False
        height = self.heights[number]
        raised = False
        for target, gain in self.graph[number]:
            old = self.heights[target]
            if old is None or height + gain > old:
                self.heights[target] = height + gain
                self.parents[target] = number
                self.fresh[target] = True
                raised = True
        return raised

    def _parent_circles(self):
        """Return the circles among the parents, each as the list of its numbers in the direction of the arrows."""
        seen_from = [None for _ in self.graph]
        found = []
        for root in self.order:
            number = root
            while number is not None and seen_from[number] is None:
                seen_from[number] = root
                number = self.parents[number]
            if number is not None and seen_from[number] == root:
                found.append(self._circle_at(number))
        return found

    def _circle_at(self, number):
        out = [number]
        while self.parents[out[-1]] != number:
            out.append(self.parents[out[-1]])
        return out[::-1]
