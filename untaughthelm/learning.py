"""Runs in which a plant is learnt, and a judge of such runs who sees no plant."""

from untaughthelm.asking import Asker
from untaughthelm.fields import check_row
from untaughthelm.rows import as_table


class Learning:
    """The inputs that were put, the states, and what is known at the end."""

    def __init__(self, puts, states, space, table):
        self.puts = puts
        self.states = states
        self.space = space
        self.table = table

    def __eq__(self, other):
        return (isinstance(other, Learning) and self.puts == other.puts and self.states == other.states
                and self.space == other.space and self.table == other.table)


def learn(plant, start):
    """Return the Learning of an Asker that asks the plant, from the start on, until it knows every reply."""
    check_row(plant.field, "start", start, plant.size)
    asker = Asker(plant.field, plant.size, plant.inputs)
    states = [tuple(start)]
    puts = []
    put = asker.ask(start)
    while put is not None:
        puts.append(put)
        states.append(plant.step(states[-1], put))
        asker = asker.hear(states[-2], put, states[-1])
        put = asker.ask(states[-1])
    space, table = asker.known()
    return Learning(tuple(puts), tuple(states), space, table)


def learning_fault(field, size, inputs, learning):
    """Return None if the Learning is what an Asker makes of its states, otherwise (tick, word)."""
    asker = Asker(field, size, inputs)
    puts = as_table(learning.puts)
    states = as_table(learning.states)
    many = len(puts)
    if len(states) != many + 1:
        return 0, "states"
    for tick, put in enumerate(puts):
        if asker.ask(states[tick]) != put:
            return tick, "ask"
        asker = asker.hear(states[tick], put, states[tick + 1])
    if asker.ask(states[many]) is not None:
        return many, "end"
    space, table = asker.known()
    if as_table(learning.space) != space:
        return many, "space"
    if as_table(learning.table) != table:
        return many, "table"
    return None
