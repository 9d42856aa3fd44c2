"""Looks: when they can take place, and what can be taken at them."""

from looptimes.scenes import Scene


def look_times(program, standing):
    """Return the least and the greatest time until the next look, or None at rest.

    The turn is over. Any time between the two can be that of the look.
    """
    if len(standing[1]) > 0:
        return 0, 0
    least = _least(_dues(standing))
    if least is None:
        return None
    if least < 0:
        return 0, 0
    return least, least + program.late


def takings(program, standing):
    """Return all that can happen at a look now, as pairs (list of what is taken, next standing)."""
    out = []
    _take_on(program, standing, [], out)
    return out


def look_with(program, standing, items):
    """Return the standing behind a look now at which these pairs (name, what) are taken; None if there is none."""
    names = program.names()
    for name, what in items:
        numbers = [number for _, number, kind in _next_dues(standing) if names[number] == name and kind == what]
        if len(numbers) == 0:
            return None
        standing = _with_taken(program, standing, numbers[0], what)
    if not _can_end(standing):
        return None
    return _begun(program, standing)


def _take_on(program, standing, taken, out):
    """Add all ways to go on with a look at which something has been taken."""
    if _can_end(standing):
        out.append((taken, _begun(program, standing)))
    names = program.names()
    for _, number, what in _next_dues(standing):
        after = _with_taken(program, standing, number, what)
        _take_on(program, after, [*taken, (names[number], what)], out)


def _next_dues(standing):
    """Return those triples of what is due now that can be taken next."""
    dues = [due for due in _dues(standing) if due[0] <= 0]
    least = _least(dues)
    return [due for due in dues if due[0] == least]


def _can_end(standing):
    """Tell whether a look can end."""
    least = _least(_dues(standing))
    # Tasks are ready if some were when the look began, or if something has been taken.
    return least is None or least > 0 or (least == 0 and len(standing[1]) > 0)


def _dues(standing):
    """Return what is or becomes due, as triples (time until then, number of the task, what)."""
    out = []
    for number, (_, word, rest, missed, left) in enumerate(standing[2]):
        if word == "sleeps":
            out.append((rest, number, "sleep"))
        if missed == 1:
            out.append((left, number, "within"))
    return out


def _least(dues):
    least = None
    for moment, _, _ in dues:
        if least is None or moment < least:
            least = moment
    return least


def _begun(program, standing):
    """Return the standing with which the turn begins."""
    scene = Scene(program, standing)
    scene.begin_turn()
    return scene.standing()


def _with_taken(program, standing, number, what):
    scene = Scene(program, standing)
    actor = scene.actors[number]
    if what == "sleep":
        actor.move_behind()
        scene.wake(number)
    elif actor.word == "ready":
        actor.missed = 2
        actor.left = 0
    else:
        scene.leave_queues(number)
        actor.leave_within()
        scene.wake(number)
    return scene.standing()
