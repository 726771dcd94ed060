"""Works: made of boxes, doors and rules, checked as they are made, and asked for their parts.

A works is a tuple (boxes, doors, rules) of tuples: a box is (name, width, first word), a door (name, width),
a rule (name, guard, writes), and a write (box, term).
"""

from beatwright.errors import NoName, TooMany, Twice, Unknown
from beatwright.terms import check_like, width_named, width_of
from beatwright.words import check_width, check_word

MOST_BOXES = 12
MOST_DOORS = 6
MOST_RULES = 8
MOST_WRITES = 6
LONGEST_NAME = 8


# The three counts are looked at ahead of all else, wherever another fault stands.
def made(boxes, doors, rules):
    check_many(boxes, MOST_BOXES, "boxes")
    check_many(doors, MOST_DOORS, "doors")
    check_many(rules, MOST_RULES, "rules")
    taken = {}
    box_widths = checked_boxes(boxes, taken)
    door_widths = checked_doors(doors, taken)
    for rule in rules:
        check_rule(rule, taken, box_widths, door_widths)
    return (tuple(boxes), tuple(doors), tuple([(rule[0], rule[1], tuple(rule[2])) for rule in rules]))


def check_many(things, most, called):
    if len(things) > most:
        raise TooMany(f"there are more than {most} {called}")


def is_name(text):
    return 1 <= len(text) <= LONGEST_NAME and all(["a" <= sign <= "z" for sign in text])


# The names taken so far grow here: boxes, doors and rules share one store of names.
def take_name(name, taken):
    if not is_name(name):
        raise NoName(f"{name!r} is no name")
    check_once(name, taken)
    taken[name] = True


def check_once(name, taken):
    if name in taken:
        raise Twice(f"{name!r} stands there twice")


def checked_boxes(boxes, taken):
    widths = {}
    for name, width, first in boxes:
        take_name(name, taken)
        check_width(width)
        check_word(width, first)
        widths[name] = width
    return widths


def checked_doors(doors, taken):
    widths = {}
    for name, width in doors:
        take_name(name, taken)
        check_width(width)
        widths[name] = width
    return widths


def check_rule(rule, taken, box_widths, door_widths):
    take_name(rule[0], taken)
    check_like(width_of(rule[1], box_widths, door_widths), 1)
    check_many(rule[2], MOST_WRITES, "writes")
    written = {}
    for box, term in rule[2]:
        width = width_named(box_widths, box)
        check_once(box, written)
        written[box] = True
        check_like(width_of(term, box_widths, door_widths), width)


def rule_of(works, name):
    for rule in works[2]:
        if rule[0] == name:
            return rule
    raise Unknown(f"no rule is called {name!r}")


def rule_names(works):
    return [rule[0] for rule in works[2]]


def widths_of(works):
    return (dict([(box[0], box[1]) for box in works[0]]), dict([(door[0], door[1]) for door in works[1]]))


def first_words(works):
    return dict([(box[0], box[2]) for box in works[0]])


# Words that are told in the order of boxes, or of doors, by their names.
def named_words(things, words):
    return dict([(thing[0], word) for thing, word in zip(things, words)])
