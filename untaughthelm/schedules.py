"""Schedules: plants that are exchanged at ticks of a run, and pushes of its replies."""

from untaughthelm.errors import BadRow, BadSchedule
from untaughthelm.fields import check_row, holds_rows
from untaughthelm.plants import Plant
from untaughthelm.ratios import is_sequence, is_whole
from untaughthelm.rows import row_plus


def run_schedule(schedule, start, puts, pushes=()):
    """Return the states from the start on, each reply being that of the plant of its tick, pushed by its pushes."""
    _check_schedule(schedule)
    first = schedule[0][1]
    check_row(first.field, "start", start, first.size)
    if not holds_rows(first.field, puts, first.inputs):
        raise BadRow("u")
    _check_pushes(first, pushes)
    states = [tuple(start)]
    for tick, put in enumerate(puts):
        states.append(pushed_reply(plant_at(schedule, tick), states[-1], put, tick, pushes))
    return tuple(states)


def plant_at(schedule, tick):
    """Return the plant that answers at this tick."""
    answering = None
    for begin, plant in schedule:
        if begin <= tick:
            answering = plant
    return answering


def pushed_reply(plant, x, u, tick, pushes):
    """Return the reply of the plant, pushed by all pushes of this tick."""
    reply = plant.step(x, u)
    for at, row in pushes:
        if at == tick:
            reply = row_plus(plant.field, reply, row)
    return reply


def is_like(plant, field, size, inputs):
    """Return whether a thing is a plant of this field, size and number of inputs."""
    return (isinstance(plant, Plant) and plant.field == field and plant.size == size
            and plant.inputs == inputs)


def _check_schedule(schedule):
    if not is_sequence(schedule, 1):
        raise BadSchedule("tick", 0)
    low = 0
    for at, couple in enumerate(schedule):
        if not is_sequence(couple, 2, 2) or not is_whole(couple[0], low, 0 if at == 0 else None):
            raise BadSchedule("tick", at)
        if not isinstance(couple[1], Plant):
            raise BadSchedule("plant", at)
        first = schedule[0][1]
        if not is_like(couple[1], first.field, first.size, first.inputs):
            raise BadSchedule("plant", at)
        low = couple[0] + 1


def _check_pushes(plant, pushes):
    if not is_sequence(pushes):
        raise BadSchedule("push", 0)
    for at, push in enumerate(pushes):
        if not is_sequence(push, 2, 2) or not is_whole(push[0], 0) or not plant.field.holds_row(push[1], plant.size):
            raise BadSchedule("push", at)
