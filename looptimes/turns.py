"""What a running task does at its place."""

from looptimes.scenes import Scene


def doings(program, standing):
    """Return all that the running task can do now, as pairs (what of the event, next standing).

    The time of a work has passed already.
    """
    number = standing[0][0]
    plan = program.plans[number]
    place = standing[2][number][0]
    if place == plan.end:
        return [(place, _ended(program, standing))]
    kind = plan.flat[place][0]
    if kind == "either":
        return [((place, branch), _branched(program, standing, branch)) for branch in (0, 1)]
    scene = Scene(program, standing)
    action = ACTIONS[kind]
    action(scene, scene.runner())
    return [(place, scene.standing())]


def work_times(program, standing):
    """Return the least and the greatest time that the running task's row takes."""
    row = _row_at(program, standing)
    if row is None or row[0] != "work":
        return 0, 0
    return row[1], row[2]


def word_at(program, standing):
    """Return the word that is said by the next event, or None if it says none."""
    if len(standing[0]) == 0:
        return None
    row = _row_at(program, standing)
    if row is None or row[0] != "say":
        return None
    return row[1]


def _row_at(program, standing):
    """Return the row at the place of the running task, or None at END."""
    number = standing[0][0]
    plan = program.plans[number]
    place = standing[2][number][0]
    if place == plan.end:
        return None
    return plan.flat[place]


def _ended(program, standing):
    scene = Scene(program, standing)
    scene.stop("ended")
    return scene.standing()


def _branched(program, standing, branch):
    scene = Scene(program, standing)
    actor = scene.runner()
    actor.move(actor.plan.firsts[actor.place][branch])
    return scene.standing()


def _go_on(scene, actor):
    actor.move_behind()


def _enter_ever(scene, actor):
    actor.move(actor.plan.firsts[actor.place][0])


def _enter_within(scene, actor):
    place, time = actor.place, actor.present_row()[1]
    actor.move(actor.plan.firsts[place][0])
    if actor.plan.guards[actor.place] == place:
        actor.missed = 1
        actor.left = time


def _give(scene, actor):
    number = scene.counter_number(actor.present_row()[1])
    queue = scene.queues[number]
    if len(queue) > 0:
        first = queue.pop(0)
        scene.actors[first].move_behind()
        scene.wake(first)
    elif scene.levels[number] < scene.triples[number][2]:
        scene.levels[number] = scene.levels[number] + 1
    actor.move_behind()


def _take(scene, actor):
    number = scene.counter_number(actor.present_row()[1])
    if scene.levels[number] > 0:
        scene.levels[number] = scene.levels[number] - 1
        actor.move_behind()
    elif not _is_turned_away(actor):
        scene.queues[number].append(scene.turn[0])
        scene.stop("takes")


def _sleep(scene, actor):
    if not _is_turned_away(actor):
        actor.rest = actor.present_row()[1]
        scene.stop("sleeps")


def _pass(scene, actor):
    if not _is_turned_away(actor):
        number = scene.turn[0]
        actor.move_behind()
        scene.stop("ready")
        scene.wake(number)


def _is_turned_away(actor):
    """With a missed deadline no wait begins: tell whether it is one, and go on elsewhere if so."""
    if actor.missed != 2:
        return False
    actor.leave_within()
    return True


# The actions get the scene, which they change, and the actor that runs in it.
ACTIONS = {
    "work": _go_on, "say": _go_on, "ever": _enter_ever, "within": _enter_within,
    "give": _give, "take": _take, "sleep": _sleep, "pass": _pass,
}
