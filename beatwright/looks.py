"""Looks: all states that the plain machine comes to, and whether a saying holds in each of them.

A state is told as a tuple of its words, in the order of the boxes, and words at the doors as a tuple in the order of
the doors. The way to a state is a tuple (number of the state from which it came, name of the rule, words at the doors).
"""

from beatwright.errors import Shut, TooMany
from beatwright.plain import do, plain_worth
from beatwright.terms import check_like, width_of
from beatwright.works import first_words, named_words, rule_names, widths_of

MOST_DOOR_BITS = 4


# A saying that is 1 everywhere lets the look go on to all states.
def reached(works, most):
    check_door_bits(works)
    look = looked(works, ("num", 1, 1), most)
    if look[0] == "unsure":
        return None
    return (list(look[1]), list(look[1].values()))


# A saying is looked at as if there were no doors, so that any door in it is unknown.
def kept(works, T, most):
    check_like(width_of(T, widths_of(works)[0], {}), 1)
    check_door_bits(works)
    look = looked(works, T, most)
    if look[0] == "broken":
        return ("broken", row_to_last(list(look[1].values())))
    if look[0] == "unsure":
        return ("unsure",)
    return ("kept", list(look[1]))


def check_door_bits(works):
    if sum([door[1] for door in works[1]]) > MOST_DOOR_BITS:
        raise TooMany(f"the doors have more than {MOST_DOOR_BITS} bits together")


# A pair: the answer, and the way of each state found, by the state, in the order found. Where the last one both
# breaks the saying and is one too many, it is told as broken.
def looked(works, saying, most):
    found = {}
    steps = [(words_in(works[0], first_words(works)), None)]
    gone_on = 0
    while True:
        for state, way in steps:
            if state not in found:
                found[state] = way
                if plain_worth(works, saying, named_words(works[0], state), {}) == 0:
                    return ("broken", found)
                if len(found) > most:
                    return ("unsure", found)
        if gone_on == len(found):
            return ("kept", found)
        steps = steps_from(works, gone_on, list(found)[gone_on])
        gone_on = gone_on + 1


def words_in(boxes, now):
    return tuple([now[box[0]] for box in boxes])


# All that can be done in a state, as pairs of the state that it leads to and its way.
def steps_from(works, number, state):
    now = named_words(works[0], state)
    rows = door_rows(works[1])
    steps = []
    for name in rule_names(works):
        for row in rows:
            behind = state_behind(works, name, now, named_words(works[1], row))
            if behind is not None:
                steps.append((words_in(works[0], behind), (number, name, row)))
    return steps


# Each door's words are counted up within each row of words at the doors ahead of it: the last door is the fastest.
def door_rows(doors):
    rows = [()]
    for door in doors:
        longer = []
        for row in rows:
            longer.extend([row + (word,) for word in range(1 << door[1])])
        rows = longer
    return rows


# The state behind a rule, or None where it cannot be done.
def state_behind(works, name, now, doors):
    try:
        return do(works, name, now, doors)
    except Shut:
        return None


# The ways are followed back from the last state found to the first one, which has none.
def row_to_last(ways):
    row = []
    way = ways[-1]
    while way is not None:
        row.append((way[1], way[2]))
        way = ways[way[0]]
    return list(reversed(row))
