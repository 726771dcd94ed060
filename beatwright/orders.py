"""Orders of a works' rules, their clashes, and the order that has the fewest of them."""

from beatwright.clashes import clash
from beatwright.errors import NoOrder
from beatwright.papers import shared
from beatwright.works import rule_names


def clashes_of(works, order):
    check_order(works, order)
    pairs = []
    for place, ahead in enumerate(order):
        pairs.extend([(ahead, behind) for behind in clashing(works, ahead, order[place + 1:])])
    return pairs


def check_order(works, order):
    if sorted(order) != sorted(rule_names(works)):
        raise NoOrder("an order has the name of each rule just once")


# Those of the names that clash with a rule that stands ahead of them.
def clashing(works, ahead, names):
    return [behind for behind in names if clash(works, ahead, behind) is not None]


# Whichever of both stands ahead.
def are_paired(pairs, one, other):
    return (one, other) in pairs or (other, one) in pairs


# The more urgent rules that make a clash with a rule, the most urgent first.
def rivals_of(works, clashes, name):
    return [other for other in ahead_of(rule_names(works), name) if are_paired(clashes, other, name)]


def ahead_of(names, name):
    return names[:names.index(name)]


def table(works):
    return fewest_clashes(clashing_numbers(works))


# For each rule, by its number, the numbers of those that clash with it where it stands ahead of them.
def clashing_numbers(works):
    names = rule_names(works)
    numbers = []
    for ahead in names:
        others = [name for name in names if name != ahead]
        numbers.append([names.index(behind) for behind in clashing(works, ahead, others)])
    return numbers


# Rules in a set are told by the bits of a number. Each set is reckoned from smaller ones, which have come by then.
def fewest_clashes(numbers):
    fewest = [0]
    for rules in range(1, 1 << len(numbers)):
        fewest.append(min([clashes_led(numbers, fewest, rules, leader) for leader in numbers_in(rules)]))
    return fewest


def numbers_in(rules):
    return [number for number in range(rules.bit_length()) if (rules >> number) & 1 == 1]


# The fewest clashes of these rules where the leader stands ahead of all the others.
def clashes_led(numbers, fewest, rules, leader):
    others = rules ^ (1 << leader)
    return fewest[others] + len(shared(numbers[leader], numbers_in(others)))


# Taken from the front, each time the lowest number that still leads to the fewest clashes.
def cheapest(works):
    names = rule_names(works)
    numbers = clashing_numbers(works)
    fewest = fewest_clashes(numbers)
    rules = len(fewest) - 1
    order = []
    while rules > 0:
        leader = lowest_leader(numbers, fewest, rules)
        order.append(names[leader])
        rules = rules ^ (1 << leader)
    return order


def lowest_leader(numbers, fewest, rules):
    return min([leader for leader in numbers_in(rules) if clashes_led(numbers, fewest, rules, leader) == fewest[rules]])
