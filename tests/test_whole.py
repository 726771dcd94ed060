"""Point 3: a beat is as if its rules were done one by one, for drawn works, orders and words."""

import itertools
import random
import unittest

from beatwright.beats import beat
from beatwright.clashes import clash
from beatwright.errors import Ring
from beatwright.orders import cheapest, clashes_of
from beatwright.plain import can, do, do_row
from beatwright.plans import own_plan, plan
from beatwright.terms import worth
from beatwright.works import first_words, rule_of, widths_of
from tests.samples import drawn_words, drawn_works, names_of


def plans_of(works):
    """The plan of each order that is not refused."""
    for order in itertools.permutations(names_of(works)):
        try:
            yield plan(works, list(order))
        except Ring:
            pass


class BeatsTest(unittest.TestCase):
    def one_by_one(self, works, own, taken, now, doors):
        """The taken rules done by the plain machine, each of them let by; told is what each of them begins with."""
        states = {}
        for name in taken:
            self.assertTrue(can(works, name, now, doors), (works, own, name))
            states[name] = now
            now = do(works, name, now, doors)
        return states, now

    def held(self, works, own, now, doors):
        taken, left, behind = beat(works, own, now, doors)
        row = names_of(works)
        self.assertEqual(taken, [name for name in own[0] if name in taken])
        states, last = self.one_by_one(works, own, taken, now, doors)
        self.assertEqual(last, behind)
        self.assertEqual(do_row(works, taken, now, doors), behind)
        for pair in itertools.combinations(taken, 2):
            self.assertNotIn(pair, own[2])
            self.assertIsNone(clash(works, *pair))
        if any(can(works, name, now, doors) for name in row):
            self.assertNotEqual(taken, [])
        for name in row:
            if name not in taken:
                self.not_taken(works, own, name, (taken, left), now, doors)
        return taken, left, behind

    def not_taken(self, works, own, name, told, now, doors):
        """Its guard does not hold as it sees, or a more urgent rule is told that was taken and clashes with it."""
        taken, left = told
        ahead = own[0][:own[0].index(name)]
        late = do_row(works, [other for other in taken if other in ahead], now, doors)
        if worth(rule_of(works, name)[1], widths_of(works), now, late, doors) == 0:
            self.assertNotIn(name, dict(left))
            return
        other = dict(left)[name]
        row = names_of(works)
        self.assertIn(other, taken)
        self.assertLess(row.index(other), row.index(name))
        self.assertIsNotNone(clash(works, *sorted((name, other), key=own[0].index)))

    def test_runs_by_each_order(self):
        chance = random.Random(3)
        seen = {"several": 0, "left": 0, "unlike": 0}
        for _ in range(40):
            works = drawn_works(chance, chance.randrange(1, 5))
            for own in plans_of(works):
                now = first_words(works)
                for _ in range(5):
                    taken, left, behind = self.held(works, own, now, drawn_words(chance, widths_of(works)[1]))
                    seen["several"] += len(taken) > 1
                    seen["left"] += len(left) > 0
                    seen["unlike"] += taken != [name for name in names_of(works) if name in taken]
                    now = behind
        self.assertGreater(min(seen.values()), 100)

    def test_from_any_state(self):
        chance = random.Random(33)
        for _ in range(60):
            works = drawn_works(chance, chance.randrange(2, 9), deep=4)
            names = names_of(works)
            own = own_plan(works)
            for _ in range(8):
                self.held(works, own, *[drawn_words(chance, widths) for widths in widths_of(works)])
            self.held(works, plan(works, names), *[drawn_words(chance, widths) for widths in widths_of(works)])

    def test_no_order_has_fewer_clashes_than_the_cheapest(self):
        chance = random.Random(333)
        for _ in range(15):
            works = drawn_works(chance, chance.randrange(1, 5))
            fewest = len(clashes_of(works, cheapest(works)))
            for order in itertools.permutations(names_of(works)):
                self.assertLessEqual(fewest, len(clashes_of(works, list(order))))


if __name__ == "__main__":
    unittest.main()
