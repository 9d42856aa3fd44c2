"""Weights: how much the time that a task spends in a state counts."""

from looptimes.errors import BadWeights
from looptimes.kinds import is_between, is_list

STATE_WORDS = ("runs", "ready", "sleeps", "takes", "ended")
MOST_WEIGHT = 99


def checked_weights(program, weights):
    """Return the rates that the weights, any object, stand for: for each task a dict from words to numbers."""
    if not is_list(weights):
        raise BadWeights(0)
    names = program.names()
    rates = [{} for _ in names]
    for index, item in enumerate(weights):
        if not _is_weight(item, names):
            raise BadWeights(index)
        name, word, number = item
        told = rates[names.index(name)]
        if word in told:
            raise BadWeights(index)
        told[word] = number
    return rates


def rate(rates, standing):
    """Return what one unit of time counts in the standing."""
    total = 0
    for told, state in zip(rates, standing[2]):
        total = total + told.get(state[1], 0)
    return total


def _is_weight(item, names):
    if not is_list(item) or len(item) != 3:
        return False
    name, word, number = item
    if not isinstance(name, str) or name not in names or not isinstance(word, str):
        return False
    return word in STATE_WORDS and is_between(number, -MOST_WEIGHT, MOST_WEIGHT)
