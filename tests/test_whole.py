"""Point 3: a beat, of the beat machine and of the wires, is as if its rules were done one by one; drawn works."""

import itertools
import random
import unittest

from beatwright.beats import beat
from beatwright.clashes import clash, read_late, written
from beatwright.errors import Ring
from beatwright.orders import cheapest, clashes_of
from beatwright.plain import can, do, do_row
from beatwright.plans import own_plan, plan
from beatwright.terms import worth
from beatwright.wires import tick, wired
from beatwright.works import first_words, rule_of, widths_of
from tests.samples import MANY_BITS, drawn_words, drawn_works, names_of


def plans_of(works):
    """The plan of each order that is not refused."""
    for order in itertools.permutations(names_of(works)):
        try:
            yield plan(works, list(order))
        except Ring:
            pass


class BeatsTest(unittest.TestCase):
    def one_by_one(self, works, own, taken, now, doors):
        """The taken rules done by the plain machine, each of them let by; told is what each of them begins with."""
        states = {}
        for name in taken:
            self.assertTrue(can(works, name, now, doors), (works, own, name))
            states[name] = now
            now = do(works, name, now, doors)
        return states, now

    def held(self, works, own, wires, now, doors):
        taken, left, behind = beat(works, own, now, doors)
        self.assertEqual(tick(works, wires, now, doors), (taken, behind), (works, own, now, doors))
        row = names_of(works)
        self.assertEqual(taken, [name for name in own[0] if name in taken])
        states, last = self.one_by_one(works, own, taken, now, doors)
        self.assertEqual(last, behind)
        self.assertEqual(do_row(works, taken, now, doors), behind)
        for pair in itertools.combinations(taken, 2):
            self.assertNotIn(pair, own[2])
            self.assertIsNone(clash(works, *pair))
        if any(can(works, name, now, doors) for name in row):
            self.assertNotEqual(taken, [])
        for name in row:
            if name not in taken:
                self.not_taken(works, own, name, (taken, left), now, doors)
        return taken, left, behind

    def not_taken(self, works, own, name, told, now, doors):
        """Its guard does not hold as it sees, or a more urgent rule is told that was taken and clashes with it."""
        taken, left = told
        ahead = own[0][:own[0].index(name)]
        late = do_row(works, [other for other in taken if other in ahead], now, doors)
        if worth(rule_of(works, name)[1], widths_of(works), now, late, doors) == 0:
            self.assertNotIn(name, dict(left))
            return
        other = dict(left)[name]
        row = names_of(works)
        self.assertIn(other, taken)
        self.assertLess(row.index(other), row.index(name))
        self.assertIsNotNone(clash(works, *sorted((name, other), key=own[0].index)))

    def run_held(self, works, own, chance, seen):
        """Five beats from the first words on, with drawn words at the doors; what is met is counted."""
        wires = wired(works, own)
        now = wired_now = first_words(works)
        for _ in range(5):
            doors = drawn_words(chance, widths_of(works)[1])
            taken, left, now = self.held(works, own, wires, now, doors)
            # The wires go on from what they came to themselves.
            wired_taken, wired_now = tick(works, wires, wired_now, doors)
            self.assertEqual((wired_taken, wired_now), (taken, now))
            seen["several"] += len(taken) > 1
            seen["left"] += len(left) > 0
            seen["unlike"] += taken != [name for name in names_of(works) if name in taken]
            seen["late"] += any(set(written(works, one)) & set(read_late(works, other))
                                for one, other in itertools.combinations(taken, 2))

    def test_runs_by_each_order(self):
        chance = random.Random(3)
        seen = {"several": 0, "left": 0, "unlike": 0, "late": 0}
        for _ in range(40):
            works = drawn_works(chance, chance.randrange(1, 5))
            for own in plans_of(works):
                self.run_held(works, own, chance, seen)
        self.assertGreater(min(seen.values()), 100)

    def test_runs_of_many_bits(self):
        chance = random.Random(64)
        seen = {"several": 0, "left": 0, "unlike": 0, "late": 0}
        for _ in range(25):
            works = drawn_works(chance, chance.randrange(1, 4), deep=4, widths=MANY_BITS)
            for own in plans_of(works):
                self.run_held(works, own, chance, seen)
        self.assertGreater(min(seen.values()), 10)

    def test_from_any_state(self):
        chance = random.Random(33)
        for _ in range(60):
            works = drawn_works(chance, chance.randrange(2, 9), deep=4)
            names = names_of(works)
            for own, many in ((own_plan(works), 8), (plan(works, names), 1)):
                wires = wired(works, own)
                for _ in range(many):
                    self.held(works, own, wires, *[drawn_words(chance, widths) for widths in widths_of(works)])

    def test_no_order_has_fewer_clashes_than_the_cheapest(self):
        chance = random.Random(333)
        for _ in range(15):
            works = drawn_works(chance, chance.randrange(1, 5))
            fewest = len(clashes_of(works, cheapest(works)))
            for order in itertools.permutations(names_of(works)):
                self.assertLessEqual(fewest, len(clashes_of(works, list(order))))


if __name__ == "__main__":
    unittest.main()
