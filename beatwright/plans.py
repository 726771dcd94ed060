"""Plans: which rules must be settled ahead of which, and the order in which a beat settles them."""

from beatwright.clashes import read_late, written
from beatwright.errors import Ring
from beatwright.orders import ahead_of, cheapest, clashes_of, rivals_of
from beatwright.papers import shared
from beatwright.works import rule_names


def needs(works, order):
    return needs_with(works, order, clashes_of(works, order))


# The names come in the row's order: "come_in_turn" goes by it.
def needs_with(works, order, clashes):
    return dict([(name, needed_by(works, order, clashes, name)) for name in rule_names(works)])


def needed_by(works, order, clashes, name):
    ahead = ahead_of(order, name)
    late = read_late(works, name)
    rivals = rivals_of(works, clashes, name)
    needed = []
    for other in rule_names(works):
        feeds = other in ahead and len(shared(written(works, other), late)) > 0
        if feeds or other in rivals:
            needed.append(other)
    return needed


# The rules that can be settled; those in a ring, and those that need one of them, never come.
def come_in_turn(needed):
    come = []
    while True:
        free = [name for name in needed if name not in come and have_come(needed[name], come)]
        if len(free) == 0:
            return come
        come.append(free[0])


def have_come(names, come):
    return all([name in come for name in names])


def ring(works, order):
    return ring_among(needs(works, order))


# Each rule that never comes needs another such one: going on from one to the next leads into a ring.
def ring_among(needed):
    come = come_in_turn(needed)
    held = [name for name in needed if name not in come]
    if len(held) == 0:
        return []
    way = []
    name = held[0]
    while name not in way:
        way.append(name)
        name = [other for other in needed[name] if other in held][0]
    return way[way.index(name):]


def settling(works, order):
    return settled(needs(works, order))


def settled(needed):
    come = come_in_turn(needed)
    if len(come) < len(needed):
        raise Ring("rules need one another in a ring")
    return come


# The clashes are asked for once: each of them may take long to tell.
def plan(works, order):
    clashes = clashes_of(works, order)
    come = settled(needs_with(works, order, clashes))
    return (tuple(order), tuple(come), tuple(clashes))


# In the rules' row each one needs more urgent ones alone, so that order is never refused.
def own_plan(works):
    try:
        return plan(works, cheapest(works))
    except Ring:
        return plan(works, rule_names(works))
