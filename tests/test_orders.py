"""Points 17 and 18: orders and their clashes, the table, and the cheapest order."""

import itertools
import random
import unittest

from beatwright.clashes import clash
from beatwright.errors import BeatError, NoOrder
from beatwright.orders import cheapest, clashes_of, table
from beatwright.works import made
from tests.samples import NO, YES, drawn_works, names_of, open_works

NONE = made([], [], [])
# Each rule clashes with the one that stands behind it in the circle.
CIRCLE = open_works(("r", "a", "c"), ("s", "b", "a"), ("t", "c", "b"))
# Each two rules clash, whichever of both stands ahead.
CROWD = open_works(*[(name, "a", "a") for name in ("one", "two", "three", "four")])


def pairs_by_point(works, order):
    places = [(ahead, behind) for ahead in range(len(order)) for behind in range(len(order)) if ahead < behind]
    return [(order[ahead], order[behind]) for ahead, behind in places
            if clash(works, order[ahead], order[behind]) is not None]


def clashing_pairs(works):
    """All pairs that are a clash, for a faster look at many orders."""
    return {pair for pair in itertools.permutations(names_of(works), 2) if clash(works, *pair) is not None}


def count(pairs, order):
    return sum(pair in pairs for pair in itertools.combinations(order, 2))


def drawn_circle(chance, rules):
    """Some works of rules that write and read few boxes, with many clashes."""
    names = chance.sample(["r" + letter for letter in "abcdefgh"], rules)

    def some(low, high):
        return chance.sample("abcd", chance.randrange(low, high))

    return open_works(*[(name, some(0, 3), some(1, 4)) for name in names])


class ClashesOfTest(unittest.TestCase):
    def told(self, works, order):
        handed = list(order)
        pairs = clashes_of(works, handed)
        self.assertEqual(handed, list(order))
        self.assertIs(type(pairs), list)
        self.assertTrue(all(type(pair) is tuple for pair in pairs))
        return pairs

    def test_each_order_of_a_circle(self):
        for order, asked in [
            ("rst", ["rs", "st"]),
            ("rts", ["rs"]),
            ("srt", ["st"]),
            ("str", ["st", "tr"]),
            ("trs", ["tr", "rs"]),
            ("tsr", ["tr"]),
        ]:
            self.assertEqual(self.told(CIRCLE, list(order)), [tuple(pair) for pair in asked])

    def test_by_the_place_of_the_one_ahead_then_of_the_other(self):
        for order in itertools.permutations(["one", "two", "three", "four"]):
            self.assertEqual(self.told(CROWD, order), list(itertools.combinations(order, 2)))

    def test_no_clash_at_all(self):
        works = open_works(("r", "a", ""), ("s", "", "b"), ("t", "a", "b"))
        for order in itertools.permutations("rst"):
            self.assertEqual(self.told(works, order), [])

    def test_guards_that_never_both_hold(self):
        low = ("part", ("box", "a"), 0, 1)
        works = made(CIRCLE[0], [], [("r", low, [("a", ("num", 2, 2))]), ("s", ("not", low), [("a", ("num", 2, 1))]),
                                 ("t", YES, [("a", ("box", "a"))])])
        self.assertEqual(self.told(works, "rst"), [("r", "t"), ("s", "t")])
        self.assertEqual(self.told(works, "tsr"), [("t", "s"), ("t", "r")])

    def test_drawn_works(self):
        chance = random.Random(17)
        many = 0
        for _ in range(30):
            works = drawn_works(chance, chance.randrange(1, 5))
            for order in itertools.permutations(names_of(works)):
                told = self.told(works, order)
                self.assertEqual(told, pairs_by_point(works, order))
                many += len(told)
        self.assertGreater(many, 100)

    def test_none_and_one(self):
        self.assertEqual(self.told(NONE, []), [])
        self.assertEqual(self.told(open_works(("r", "a", "a")), ["r"]), [])

    def test_no_order(self):
        orders = [
            [], ["r"], ["r", "s"], ["s", "t"], ["r", "r", "t"], ["r", "s", "t", "t"], ["r", "s", "t", "u"],
            ["r", "s", "u"], ["r", "s", "a"], ["r", "s", ""], ["r", "s", "t", ""], ["r", "s", "T"], ["r", "s", "t "],
            ["t", "t", "t"], ["r", "s", "t", "r", "s", "t"], ["rst"], [""],
        ]
        for works, handed in [(CIRCLE, order) for order in orders] + [(NONE, ["r"]), (NONE, [""])]:
            with self.subTest(order=handed):
                before = list(handed)
                with self.assertRaises(BeatError) as caught:
                    clashes_of(works, handed)
                self.assertIs(type(caught.exception), NoOrder)
                self.assertEqual(handed, before)

    def test_the_list_is_the_askers_own(self):
        order = list("rst")
        told = clashes_of(CIRCLE, order)
        order.clear()
        self.assertEqual(told, [("r", "s"), ("s", "t")])
        told.append(("t", "r"))
        self.assertEqual(clashes_of(CIRCLE, list("rst")), [("r", "s"), ("s", "t")])


class TableTest(unittest.TestCase):
    def test_none_one_and_two(self):
        self.assertEqual(table(NONE), [0])
        self.assertEqual(table(open_works(("r", "a", "a"))), [0, 0])
        self.assertEqual(table(open_works(("r", "a", ""), ("s", "", "a"))), [0, 0, 0, 0])
        self.assertEqual(table(open_works(("r", "a", "a"), ("s", "a", "a"))), [0, 0, 0, 1])

    def test_a_circle(self):
        self.assertEqual(table(CIRCLE), [0, 0, 0, 0, 0, 0, 0, 1])

    def test_a_crowd(self):
        asked = [many * (many - 1) // 2 for many in [bin(rules).count("1") for rules in range(16)]]
        self.assertEqual(table(CROWD), asked)

    def test_the_numbers_of_the_row(self):
        works = open_works(("r", "a", "a"), ("s", "b", "b"), ("t", "a", "a"), ("u", "c", ""))
        self.assertEqual([rules for rules, many in enumerate(table(works)) if many], [5, 7, 13, 15])

    def test_as_many_rules_as_are_let_by(self):
        works = open_works(*[("r" + letter, "a", "a") for letter in "abcdefgh"])
        told = table(works)
        self.assertEqual((len(told), told[255], told[254], told[127], told[129]), (256, 28, 21, 21, 1))
        self.assertEqual(cheapest(works), names_of(works))

    def held_against_all_orders(self, works):
        pairs = clashing_pairs(works)
        names = names_of(works)
        told = table(works)
        self.assertIs(type(told), list)
        self.assertEqual({type(many) for many in told}, {int})
        self.assertEqual(len(told), 2 ** len(names))
        for rules, many in enumerate(told):
            chosen = [name for number, name in enumerate(names) if rules >> number & 1]
            self.assertEqual(many, min(count(pairs, order) for order in itertools.permutations(chosen)))
        return told

    def test_each_place_against_all_orders_of_its_rules(self):
        chance = random.Random(18)
        most = 0
        for rules in [0, 1, 2, 3, 4, 4, 4, 5, 5, 5, 6]:
            most = max(most, self.held_against_all_orders(drawn_circle(chance, rules))[-1])
            self.held_against_all_orders(drawn_works(chance, min(rules, 5)))
        self.assertGreater(most, 2)

    def test_eight_rules_against_all_orders(self):
        works = drawn_circle(random.Random(88), 8)
        pairs = clashing_pairs(works)
        fewest = min(count(pairs, order) for order in itertools.permutations(names_of(works)))
        self.assertEqual(table(works)[255], fewest)
        self.assertGreater(fewest, 0)

    def test_the_list_is_the_askers_own(self):
        for works in [NONE, CIRCLE, CROWD]:
            before = list(table(works))
            table(works).clear()
            table(works)[0] = 9
            self.assertEqual(table(works), before)


class CheapestTest(unittest.TestCase):
    def test_none_and_one(self):
        self.assertEqual(cheapest(NONE), [])
        self.assertEqual(cheapest(open_works(("r", "a", "a"))), ["r"])

    def test_two(self):
        self.assertEqual(cheapest(open_works(("r", "a", ""), ("s", "", "a"))), ["s", "r"])
        self.assertEqual(cheapest(open_works(("s", "", "a"), ("r", "a", ""))), ["s", "r"])
        self.assertEqual(cheapest(open_works(("s", "a", "a"), ("r", "a", "a"))), ["s", "r"])
        self.assertEqual(cheapest(open_works(("s", "", ""), ("r", "", ""))), ["s", "r"])

    def test_the_lower_number_at_the_first_place_that_differs(self):
        # Of the orders with one clash, rts, srt and tsr, the first begins with the rule of number 0.
        self.assertEqual(cheapest(CIRCLE), ["r", "t", "s"])
        turned = made(CIRCLE[0], [], [CIRCLE[2][place] for place in (2, 1, 0)])
        self.assertEqual(cheapest(turned), ["t", "s", "r"])
        # By the number, not by the name.
        self.assertEqual(cheapest(CROWD), ["one", "two", "three", "four"])

    def test_the_row_is_not_cheapest(self):
        works = open_works(("r", "a", ""), ("s", "b", "a"), ("t", "c", "b"), ("u", "", "c"))
        self.assertEqual(cheapest(works), ["u", "t", "s", "r"])
        self.assertEqual(clashes_of(works, cheapest(works)), [])

    def test_guards_that_never_both_hold(self):
        works = made(CIRCLE[0], [], [("r", NO, [("a", ("box", "a"))]), ("s", YES, [("a", ("box", "a"))])])
        self.assertEqual(table(works), [0, 0, 0, 0])
        self.assertEqual(cheapest(works), ["r", "s"])

    def held_against_all_orders(self, works):
        names = names_of(works)
        pairs = clashing_pairs(works)
        # All orders come by the numbers of the row, so the first of the cheapest is the one that is asked for.
        orders = [list(order) for order in itertools.permutations(names)]
        asked = min(orders, key=lambda order: count(pairs, order))
        told = cheapest(works)
        self.assertIs(type(told), list)
        self.assertEqual(told, asked)
        self.assertEqual(len(clashes_of(works, told)), table(works)[-1])
        return told != names and table(works)[-1] > 0

    def test_drawn_works_against_all_orders(self):
        chance = random.Random(81)
        many = 0
        for rules in [0, 1] + 5 * [2, 3, 4, 5] + [6, 6]:
            many += self.held_against_all_orders(drawn_circle(chance, rules))
            many += self.held_against_all_orders(drawn_works(chance, min(rules, 4)))
        self.assertGreater(many, 3)

    def test_the_list_is_the_askers_own(self):
        told = cheapest(CIRCLE)
        told.clear()
        self.assertEqual(cheapest(CIRCLE), ["r", "t", "s"])


if __name__ == "__main__":
    unittest.main()
