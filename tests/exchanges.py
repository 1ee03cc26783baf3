"""Plants that are exchanged and pushed, by sums of the tests' own."""

from classes import drawn_row, plants_of_classes
from sums import own_reply
from untaughthelm.fields import Field


def own_plant_at(schedule, tick):
    return [plant for begin, plant in schedule if begin <= tick][-1]


def pushed_by(field, row, pushes, tick):
    for at, push in pushes:
        if at == tick:
            row = tuple(field.plus(a, b) for a, b in zip(row, push))
    return row


def own_scheduled(schedule, start, puts, pushes=()):
    """The states of run_schedule."""
    states = [tuple(start)]
    for tick, u in enumerate(puts):
        plant = own_plant_at(schedule, tick)
        states.append(pushed_by(plant.field, own_reply(plant, states[-1], u), pushes, tick))
    return tuple(states)


def lead(program, schedule, ticks, pushes=()):
    """The programs, one for each tick, that a schedule leads a program through."""
    told = [program]
    for tick in range(ticks):
        program = told[-1]
        plant = own_plant_at(schedule, tick)
        reply = own_reply(plant, program.state, program.choice[1])
        told.append(program.hear(pushed_by(plant.field, reply, pushes, tick)))
    return told


def plants_of(prime):
    """Plants by size, number of inputs and class: of a class are also those of greater ones."""
    told = {}
    for rank, plant in plants_of_classes(prime, Field):
        told.setdefault((plant.size, plant.inputs, rank), []).append(plant)
    return told


def drawn_schedule(source, plants, many, last):
    """A schedule of some plants with so many exchanges, up to the tick last."""
    ticks = sorted(source.sample(range(1, last + 1), many))
    return tuple((tick, source.choice(plants)) for tick in [0] + ticks)


def drawn_pushes(source, field, size, many, last):
    return tuple((source.randint(0, last), drawn_row(field, source, size)) for _ in range(many))
