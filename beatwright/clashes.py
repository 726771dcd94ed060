"""Clashes: what rules write and read, and whether one may not be done in one beat behind another one."""

from beatwright.papers import never_both, shared
from beatwright.terms import reads
from beatwright.works import rule_of


def written(works, name):
    return sorted([write[0] for write in rule_of(works, name)[2]])


def read_early(works, name):
    return boxes_read(rule_of(works, name), 0)


def read_late(works, name):
    return boxes_read(rule_of(works, name), 1)


# The number says which of the lists that "reads" tells is asked for.
def boxes_read(rule, number):
    names = reads(rule[1])[number]
    for write in rule[2]:
        names.extend(reads(write[1])[number])
    return sorted(set(names))


# The boxes go first: where they settle it, no guards need be looked at.
def clash(works, ahead, behind):
    boxes = shared(written(works, ahead), read_early(works, behind))
    if len(boxes) == 0:
        return None
    answer = never_both(works, ahead, behind)
    if answer[0] == "never":
        return None
    return (boxes[0], answer)
