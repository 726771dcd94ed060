"""Points 19 and 20: what rules need, rings, settlings and plans."""

import itertools
import random
import unittest

from beatwright.clashes import clash, read_late, written
from beatwright.errors import BeatError, NoOrder, Ring
from beatwright.orders import cheapest, clashes_of
from beatwright.plans import needs, own_plan, plan, ring, settling
from beatwright.works import made
from tests.samples import NO, YES, drawn_works, names_of, open_works

NONE = made([], [], [])
# In the order v, u: u reads late what v writes, and v is the less urgent one of a clash.
PAIR = open_works(("u", "", "m", "m"), ("v", "m", "", ""))
# In the order z, y, x, w: x needs y, y needs z, z needs x; and w needs x, though in no ring.
THREE = open_works(("w", "", "", "n"), ("x", "n", "m", "p"), ("y", "p", "", "q"), ("z", "qm", "", ""))
# The order z, y, x alone has one clash, and a ring.
DEAR = open_works(("x", "n", "m", "p"), ("y", "p", "n", "q"), ("z", "qm", "np", ""))

NO_ORDERS = [
    [], ["x"], ["x", "y"], ["x", "y", "y"], ["x", "y", "z", "z"], ["x", "y", "z", "v"], ["x", "y", "v"],
    ["x", "y", "m"], ["x", "y", ""], ["x", "y", "z", ""], ["X", "y", "z"], ["zyx"],
]


def drawn_knot(chance, rules):
    """Some works of rules that write and read few boxes, early and late: many of their orders have a ring."""
    names = chance.sample(["r" + letter for letter in "abcdefgh"], rules)
    return open_works(*[(name, *[chance.sample("mnp", chance.randrange(3)) for _ in range(3)]) for name in names])


def needs_by_point(works, order):
    row = names_of(works)
    told = {}
    for name in row:
        fed = {other for other in order[:order.index(name)] if set(written(works, other)) & set(read_late(works, name))}
        rivals = {other for other in row[:row.index(name)]
                  if clash(works, *sorted((name, other), key=order.index)) is not None}
        told[name] = [other for other in row if other in fed | rivals]
    return told


def has_ring(needed):
    """Whether some rule needs itself, by whatever many steps."""
    reach = {name: set(others) for name, others in needed.items()}
    for _ in needed:
        for name in needed:
            reach[name] |= set().union(*[reach[other] for other in reach[name]])
    return any(name in reach[name] for name in needed)


class PlanCase(unittest.TestCase):
    def refused(self, error, tell, *handed):
        with self.assertRaises(BeatError) as caught:
            tell(*handed)
        self.assertIs(type(caught.exception), error)

    def no_order(self, tell):
        for order in NO_ORDERS:
            with self.subTest(order=order):
                handed = list(order)
                self.refused(NoOrder, tell, DEAR, handed)
                self.assertEqual(handed, order)
        self.refused(NoOrder, tell, NONE, ["x"])
        # The same rules in a ring, with one too many.
        self.refused(NoOrder, tell, DEAR, ["z", "y", "x", "x"])
        self.refused(NoOrder, tell, PAIR, ["v", "u", "r"])


class NeedsTest(PlanCase):
    def told(self, works, order):
        handed = list(order)
        needed = needs(works, handed)
        self.assertEqual(handed, list(order))
        self.assertIs(type(needed), dict)
        self.assertEqual({type(names) for names in needed.values()} - {list}, set())
        return needed

    def test_a_box_that_is_read_late(self):
        works = open_works(("x", "", "", "m"), ("y", "m", "", ""), ("z", "mn", "", ""))
        self.assertEqual(self.told(works, "yxz"), {"x": ["y"], "y": [], "z": []})
        self.assertEqual(self.told(works, "zyx"), {"x": ["y", "z"], "y": [], "z": []})
        self.assertEqual(self.told(works, "yzx"), {"x": ["y", "z"], "y": [], "z": []})
        self.assertEqual(self.told(works, "xyz"), {"x": [], "y": [], "z": []})

    def test_a_less_urgent_rule_that_reads_late(self):
        works = open_works(("x", "m", "", ""), ("y", "", "", "m"))
        self.assertEqual(self.told(works, "xy"), {"x": [], "y": ["x"]})
        self.assertEqual(self.told(works, "yx"), {"x": [], "y": []})

    def test_late_in_a_written_term_alone(self):
        rules = [("x", NO, [("m", ("num", 2, 1))]), ("y", NO, [("n", ("late", "m"))])]
        works = made([("m", 2, 0), ("n", 2, 0)], [], rules)
        self.assertEqual(self.told(works, "xy"), {"x": [], "y": ["x"]})

    def test_a_clash_whichever_stands_ahead(self):
        both = open_works(("x", "m", "m", ""), ("y", "m", "m", ""))
        self.assertEqual(self.told(both, "xy"), {"x": [], "y": ["x"]})
        self.assertEqual(self.told(both, "yx"), {"x": [], "y": ["x"]})

    def test_a_clash_of_this_order_alone(self):
        works = open_works(("x", "m", "", ""), ("y", "", "m", ""))
        self.assertEqual(self.told(works, "xy"), {"x": [], "y": ["x"]})
        self.assertEqual(self.told(works, "yx"), {"x": [], "y": []})
        works = open_works(("x", "", "m", ""), ("y", "m", "", ""))
        self.assertEqual(self.told(works, "xy"), {"x": [], "y": []})
        self.assertEqual(self.told(works, "yx"), {"x": [], "y": ["x"]})

    def test_guards_that_never_both_hold(self):
        guard = ("part", ("box", "m"), 0, 1)
        works = made(PAIR[0], [], [("x", guard, [("m", ("num", 2, 0))]), ("y", ("not", guard), [("m", ("num", 2, 1))])])
        self.assertEqual(self.told(works, "xy"), {"x": [], "y": []})

    def test_each_name_once_and_in_the_order_of_the_row(self):
        works = open_works(("x", "m", "", ""), ("y", "m", "m", ""), ("w", "mn", "", ""), ("z", "", "mn", "mn"))
        self.assertEqual(self.told(works, "wyxz"), {"x": [], "y": [], "w": ["y"], "z": ["x", "y", "w"]})
        self.assertEqual(self.told(works, "xywz"), {"x": [], "y": ["x"], "w": [], "z": ["x", "y", "w"]})

    def test_rings(self):
        self.assertEqual(self.told(PAIR, "vu"), {"u": ["v"], "v": ["u"]})
        self.assertEqual(self.told(PAIR, "uv"), {"u": [], "v": []})
        self.assertEqual(self.told(THREE, "zyxw"), {"w": ["x"], "x": ["y"], "y": ["z"], "z": ["x"]})

    def test_none_and_one(self):
        self.assertEqual(self.told(NONE, []), {})
        self.assertEqual(self.told(open_works(("x", "m", "m", "m")), "x"), {"x": []})

    def test_drawn_works(self):
        chance = random.Random(19)
        for draw in [drawn_knot, drawn_works]:
            for _ in range(12):
                works = draw(chance, chance.randrange(1, 5))
                for order in itertools.permutations(names_of(works)):
                    self.assertEqual(self.told(works, order), needs_by_point(works, order))

    def test_no_order(self):
        self.no_order(needs)

    def test_what_is_told_is_the_askers_own(self):
        asked = needs(THREE, list("zyxw"))
        told = needs(THREE, list("zyxw"))
        told["w"].append("y")
        told["x"].clear()
        told.pop("y")
        self.assertEqual(needs(THREE, list("zyxw")), asked)


class RingTest(PlanCase):
    def told(self, works, order):
        handed = list(order)
        names = ring(works, handed)
        self.assertEqual(handed, list(order))
        self.assertIs(type(names), list)
        needed = needs(works, handed)
        self.assertEqual(len(names), len(set(names)))
        for name, other in zip(names, names[1:] + names[:1]):
            self.assertIn(other, needed[name])
        for _ in range(3):
            self.assertEqual(ring(works, handed), names)
        return names

    def test_none(self):
        self.assertEqual(self.told(NONE, ""), [])
        self.assertEqual(self.told(open_works(("x", "m", "m", "m")), "x"), [])
        self.assertEqual(self.told(PAIR, "uv"), [])
        for order in itertools.permutations("wxyz"):
            if order.index("z") > order.index("y") or order.index("y") > order.index("x"):
                self.assertEqual(self.told(THREE, order), [])

    def test_of_two(self):
        self.assertEqual(sorted(self.told(PAIR, "vu")), ["u", "v"])

    def test_of_three_with_one_that_only_needs_it(self):
        told = self.told(THREE, "zyxw")
        self.assertEqual(sorted(told), ["x", "y", "z"])
        self.assertEqual(told[(told.index("x") + 1) % 3], "y")
        self.assertEqual(sorted(self.told(THREE, "wzyx")), ["x", "y", "z"])

    def test_of_eight(self):
        # Each rule needs the next one, which stands ahead of it; and the last one clashes with the first.
        boxes = [("b" + letter, 1, 0) for letter in "abcdefghx"]
        rules = [("r" + letter, ("late", "b" + following), [("b" + letter, YES)])
                 for letter, following in zip("abcdefg", "bcdefgh")]
        rules[0] = ("ra", ("and", ("box", "bx"), ("late", "bb")), [("ba", YES)])
        rules.append(("rh", YES, [("bh", YES), ("bx", YES)]))
        works = made(boxes, [], rules)
        order = names_of(works)[::-1]
        self.assertEqual(sorted(self.told(works, order)), names_of(works))
        self.refused(Ring, settling, works, order)

    def test_drawn_works(self):
        chance = random.Random(20)
        lengths = {}
        for _ in range(40):
            works = drawn_knot(chance, chance.randrange(2, 6))
            orders = list(itertools.permutations(names_of(works)))
            for order in chance.sample(orders, min(len(orders), 12)):
                told = self.told(works, order)
                self.assertEqual(told != [], has_ring(needs(works, list(order))))
                lengths[len(told)] = lengths.get(len(told), 0) + 1
        self.assertGreater(min(lengths[0], lengths[2], lengths[3]), 3)

    def test_no_order(self):
        self.no_order(ring)

    def test_the_list_is_the_askers_own(self):
        asked = ring(PAIR, ["v", "u"])
        told = ring(PAIR, ["v", "u"])
        told.clear()
        self.assertEqual(ring(PAIR, ["v", "u"]), asked)


class SettlingTest(PlanCase):
    def told(self, works, order):
        handed = list(order)
        names = settling(works, handed)
        self.assertEqual(handed, list(order))
        self.assertIs(type(names), list)
        return names

    def test_the_first_in_the_row_whose_needs_have_come(self):
        works = open_works(("x", "", "", "m"), ("y", "m", "", ""), ("z", "", "", ""))
        self.assertEqual(self.told(works, "yxz"), ["y", "x", "z"])
        self.assertEqual(self.told(works, "zyx"), ["y", "x", "z"])
        self.assertEqual(self.told(works, "xyz"), ["x", "y", "z"])
        self.assertEqual(self.told(works, "zxy"), ["x", "y", "z"])

    def test_unlike_the_order(self):
        works = open_works(("x", "m", "m", ""), ("y", "m", "m", ""), ("z", "m", "m", ""))
        for order in itertools.permutations("xyz"):
            self.assertEqual(self.told(works, order), ["x", "y", "z"])

    def test_a_rule_comes_as_soon_as_it_can(self):
        works = open_works(("w", "", "", "n"), ("x", "n", "", "p"), ("y", "p", "", ""), ("z", "", "", ""))
        self.assertEqual(self.told(works, "zyxw"), ["y", "x", "w", "z"])
        self.assertEqual(self.told(works, "xwyz"), ["x", "w", "y", "z"])
        self.assertEqual(self.told(works, "wyxz"), ["w", "y", "x", "z"])

    def test_none_and_one(self):
        self.assertEqual(self.told(NONE, ""), [])
        self.assertEqual(self.told(open_works(("x", "m", "m", "m")), "x"), ["x"])

    def test_ring(self):
        self.refused(Ring, settling, PAIR, ["v", "u"])
        self.refused(Ring, settling, THREE, list("zyxw"))
        self.refused(Ring, settling, DEAR, list("zyx"))

    def by_point(self, works, order):
        needed = needs_by_point(works, order)
        come = []
        while len(come) < len(order):
            come.append(next(name for name in names_of(works) if name not in come and set(needed[name]) <= set(come)))
        return come

    def test_every_order_without_a_ring(self):
        chance = random.Random(21)
        seen = {True: 0, False: 0}
        for draw in 20 * [drawn_knot] + 5 * [drawn_works]:
            works = draw(chance, chance.randrange(1, 5))
            for order in itertools.permutations(names_of(works)):
                free = ring(works, list(order)) == []
                seen[free] += 1
                if free:
                    self.assertEqual(self.told(works, order), self.by_point(works, order))
                else:
                    self.refused(Ring, settling, works, list(order))
        self.assertGreater(min(seen.values()), 20)

    def test_no_order(self):
        self.no_order(settling)

    def test_the_list_is_the_askers_own(self):
        settling(PAIR, ["u", "v"]).clear()
        self.assertEqual(settling(PAIR, ["u", "v"]), ["u", "v"])


class PlanTest(PlanCase):
    def only_tuples(self, told, order):
        self.assertEqual([type(part) for part in (told, *told)], [tuple] * 4)
        self.assertEqual({type(pair) for pair in told[2]} - {tuple}, set())
        self.assertEqual(told[0], tuple(order))

    def test_three_tuples(self):
        works = open_works(("x", "m", "m", ""), ("y", "m", "m", ""), ("z", "m", "m", ""))
        for order in itertools.permutations("xyz"):
            told = plan(works, list(order))
            self.only_tuples(told, order)
            self.assertEqual(told, (order, ("x", "y", "z"), tuple(itertools.combinations(order, 2))))

    def test_no_rules(self):
        self.assertEqual(plan(NONE, []), ((), (), ()))
        self.assertEqual(own_plan(NONE), ((), (), ()))

    def test_a_settling_unlike_the_order_and_the_row(self):
        works = open_works(("x", "", "", "m"), ("y", "m", "", ""), ("z", "", "m", ""))
        self.assertEqual(plan(works, ["z", "y", "x"]), (("z", "y", "x"), ("y", "x", "z"), ()))
        self.assertEqual(plan(works, ["y", "z", "x"]), (("y", "z", "x"), ("y", "x", "z"), (("y", "z"),)))

    def test_no_order_goes_ahead_of_ring(self):
        self.no_order(plan)

    def test_ring(self):
        self.refused(Ring, plan, PAIR, ["v", "u"])
        self.refused(Ring, plan, THREE, list("zyxw"))
        self.assertEqual(plan(PAIR, ["u", "v"]), (("u", "v"), ("u", "v"), ()))

    def test_drawn_works(self):
        chance = random.Random(22)
        for _ in range(12):
            works = drawn_knot(chance, chance.randrange(1, 5))
            for order in map(list, itertools.permutations(names_of(works))):
                if ring(works, order):
                    self.refused(Ring, plan, works, order)
                    continue
                told = plan(works, order)
                self.only_tuples(told, order)
                self.assertEqual(told[1:], (tuple(settling(works, order)), tuple(clashes_of(works, order))))

    def test_what_is_handed_in_stays_and_is_not_kept(self):
        order = ["u", "v"]
        told = plan(PAIR, order)
        self.assertEqual(order, ["u", "v"])
        order.clear()
        self.assertEqual(told, (("u", "v"), ("u", "v"), ()))


class OwnPlanTest(PlanCase):
    def test_that_of_the_cheapest_order(self):
        works = open_works(("x", "m", "", ""), ("y", "n", "m", ""), ("z", "", "n", ""))
        self.assertEqual(own_plan(works), (("z", "y", "x"), ("x", "y", "z"), ()))

    def test_that_of_the_row_where_the_cheapest_is_refused(self):
        self.assertEqual(cheapest(DEAR), ["z", "y", "x"])
        self.refused(Ring, plan, DEAR, cheapest(DEAR))
        told = own_plan(DEAR)
        self.assertEqual(told, plan(DEAR, ["x", "y", "z"]))
        self.assertEqual(told[2], (("x", "y"), ("x", "z"), ("y", "z")))

    def test_drawn_works(self):
        chance = random.Random(23)
        refused = 0
        for _ in range(150):
            works = drawn_knot(chance, chance.randrange(1, 6))
            order = cheapest(works)
            if ring(works, order):
                refused += 1
                order = names_of(works)
            self.assertEqual(own_plan(works), plan(works, order))
        self.assertGreater(refused, 2)

    def test_the_row_is_never_refused(self):
        chance = random.Random(24)
        for _ in range(60):
            works = drawn_knot(chance, chance.randrange(1, 9))
            self.assertEqual(ring(works, names_of(works)), [])


if __name__ == "__main__":
    unittest.main()
