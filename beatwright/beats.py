"""The beat machine: many rules in one beat, by a plan (order, settling, clashes)."""

from beatwright.orders import ahead_of, rivals_of
from beatwright.terms import worth
from beatwright.works import first_words, rule_names, rule_of, widths_of


# What the taken rules put is kept by their names, since rules ahead in the order may be settled later.
def beat(works, plan, now, doors):
    widths = widths_of(works)
    puts = {}
    stopped = {}
    for name in plan[1]:
        rule = rule_of(works, name)
        late = words_behind(ahead_of(plan[0], name), puts, now)
        if worth(rule[1], widths, now, late, doors) == 0:
            continue
        stopper = stopper_of(works, plan[2], name, puts)
        if stopper is None:
            puts[name] = dict([(box, worth(term, widths, now, late, doors)) for box, term in rule[2]])
        else:
            stopped[name] = stopper
    taken = [name for name in plan[0] if name in puts]
    left = [(name, stopped[name]) for name in rule_names(works) if name in stopped]
    return (taken, left, words_behind(plan[0], puts, now))


# The words behind those of the rules that are taken; each later one puts over what an earlier one has put.
def words_behind(names, puts, now):
    words = dict(now)
    for name in names:
        words.update(puts.get(name, {}))
    return words


# The most urgent of the taken rules that keep a rule from being taken, or None.
def stopper_of(works, clashes, name, puts):
    for rival in rivals_of(works, clashes, name):
        if rival in puts:
            return rival
    return None


def run(works, plan, rows):
    now = first_words(works)
    told = []
    for doors in rows:
        done = beat(works, plan, now, doors)
        now = done[2]
        told.append((done[0], now))
    return told
