"""The moments of a run, cut down to whole numbers."""

from math import lcm

from looptimes.spans import Span, floored, plain


def floored_events(events, shift):
    """Return the events with each moment t replaced by the greatest integer up to t + shift."""
    return [(floored(moment + shift), who, what) for moment, who, what in events]


def averaged_events(events):
    """Return the pairs (weight, events in whole numbers) of which the events are the average.

    There is one for each shift at which one of the cut moments becomes greater, and for 0.
    """
    under, overs = _over_one_number([moment for moment, _, _ in events])
    cuts = {0: True}
    for over in overs:
        cuts[-over % under] = True
    shifts = [*sorted([int(cut) for cut in cuts]), under]
    out = []
    for at, shift in enumerate(shifts[:-1]):
        whole = [((over + shift) // under, who, what) for over, (_, who, what) in zip(overs, events)]
        out.append((plain(Span(shifts[at + 1] - shift, under)), whole))
    return out


def _over_one_number(moments):
    """Return a common denominator of the numbers, and what stands over it for each of them."""
    spans = [Span(0) + moment for moment in moments]
    under = 1
    for span in spans:
        under = lcm(under, span.under)
    return under, [span.over * (under // span.under) for span in spans]
