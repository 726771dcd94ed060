"""The plain machine: it does one rule at a time, whose guard holds."""

from beatwright.errors import Shut
from beatwright.terms import worth
from beatwright.works import rule_of, widths_of


def can(works, name, now, doors):
    return plain_worth(works, rule_of(works, name)[1], now, doors) == 1


# For the plain machine early and late are the same: both are the words of the state.
def plain_worth(works, term, now, doors):
    return worth(term, widths_of(works), now, now, doors)


# The new words go into a state of their own, so that every term is told from the state as it was.
def do(works, name, now, doors):
    if not can(works, name, now, doors):
        raise Shut(f"the guard of {name!r} does not hold")
    behind = dict(now)
    for box, term in rule_of(works, name)[2]:
        behind[box] = plain_worth(works, term, now, doors)
    return behind


def do_row(works, names, now, doors):
    behind = dict(now)
    for name in names:
        behind = do(works, name, behind, doors)
    return behind
