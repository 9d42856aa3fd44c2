"""Programs that say the same."""

from looptimes.voices import Classes, Voices


def alike(one, other):
    """Tell whether two programs say the same rows of words; if not, return a shortest one that only one says."""
    voices = Voices()
    classes = Classes()
    queue = [(voices.joined(one), voices.joined(other), [])]
    at = 0
    while at < len(queue):
        left, right, words = queue[at]
        at = at + 1
        masks, others = voices.next_masks(left), voices.next_masks(right)
        for k, own, foreign in ((0, masks, others), (1, others, masks)):
            for word in own:
                if word not in foreign:
                    return ("words", k, [*words, word])
        for word in masks:
            # What has been found to be the same need not be compared: the first difference stays the shortest.
            if classes.unite(masks[word], others[word]):
                queue.append((masks[word], others[word], [*words, word]))
    return ("alike",)
