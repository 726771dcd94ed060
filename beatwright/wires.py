"""Wires: one beat of a works by a plan, laid down in gates, and ticked.

Wires are a tuple (rows, taken, boxes): the rows of a net, a pair (name, place) for each rule, and a pair
(name, places) for each box.
"""

from beatwright.clashes import read_late
from beatwright.gates import Net, settle
from beatwright.lays import lay, none_of, picked
from beatwright.orders import ahead_of, rivals_of
from beatwright.words import bits_of, word_of
from beatwright.works import rule_of, widths_of


# What is laid of a rule is kept by its name, as a pair: the place where it is taken, and the places of what it puts.
def wired(works, plan):
    net = Net()
    widths = widths_of(works)
    early = asked_places(net, "box", widths[0])
    doors = asked_places(net, "door", widths[1])
    laid = {}
    for name in plan[1]:
        rule = rule_of(works, name)
        ahead = ahead_of(plan[0], name)
        late = dict([(box, places_behind(net, ahead, laid, box, early)) for box in read_late(works, name)])
        free = none_of(net, [laid[rival][0] for rival in rivals_of(works, plan[2], name)])
        taken = net.both(lay(net, rule[1], early, late, doors)[0], free)
        laid[name] = (taken, dict([(box, lay(net, term, early, late, doors)) for box, term in rule[2]]))
    boxes = [(box[0], tuple(places_behind(net, plan[0], laid, box[0], early))) for box in works[0]]
    return (tuple(net.told()), tuple([(name, laid[name][0]) for name in plan[0]]), tuple(boxes))


def asked_places(net, sort, widths):
    return dict([(name, [net.asked(sort, name, place) for place in range(widths[name])]) for name in widths])


# A box's bits behind those of the rules that are taken, each later one over an earlier one. Rules that are not laid
# yet don't write a box that is asked for here: all that do are needed, and so have been settled.
def places_behind(net, names, laid, box, early):
    places = early[box]
    for name in names:
        if name in laid and box in laid[name][1]:
            places = picked(net, laid[name][0], laid[name][1][box], places)
    return places


def tick(works, wires, now, doors):
    widths = widths_of(works)
    ins = bits_handed("box", widths[0], now)
    ins.update(bits_handed("door", widths[1], doors))
    bits = settle(wires[0], ins)
    taken = [name for name, place in wires[1] if bits[place] == 1]
    return (taken, dict([(name, word_of([bits[place] for place in places])) for name, places in wires[2]]))


def bits_handed(sort, widths, words):
    ins = {}
    for name in widths:
        for place, bit in enumerate(bits_of(widths[name], words[name])):
            ins[(sort, name, place)] = bit
    return ins
