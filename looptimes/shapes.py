"""Any objects as keys: what is compared with standings."""

from looptimes.kinds import is_integer, is_list

# No list in a pair with a standing has more items, and none lies deeper.
MOST_ITEMS = 5
MOST_DEPTH = 5


def keyed(thing):
    """Return the thing, any object, with tuples for lists, or None if it is no pair with a standing.

    What is not None consists of integers, strings and tuples alone.
    """
    if not is_list(thing) or len(thing) != 2:
        return None
    return _keyed(thing, MOST_DEPTH)


def _keyed(thing, depth):
    if is_integer(thing) or isinstance(thing, str):
        return thing
    # What is passed may contain itself, so it is not followed to its end.
    if depth == 0 or not is_list(thing) or len(thing) > MOST_ITEMS:
        return None
    items = [_keyed(item, depth - 1) for item in thing]
    if None in items:
        return None
    return tuple(items)
