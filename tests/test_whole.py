"""Point 3: a beat, of the beat machine and of the wires, is as if its rules were done one by one; drawn works.

And of point 33: what is told as kept by the plain machine holds behind each beat of the wires.
"""

import itertools
import random
import unittest

from beatwright.beats import beat
from beatwright.clashes import clash, read_late, written
from beatwright.errors import Ring
from beatwright.lines import line
from beatwright.looks import kept
from beatwright.orders import cheapest, clashes_of
from beatwright.plain import can, do, do_row
from beatwright.plans import own_plan, plan
from beatwright.terms import worth
from beatwright.wires import tick, wired
from beatwright.works import first_words, rule_of, widths_of
from tests.samples import FEW_BITS, MANY_BITS, all_sorts, drawn_term, drawn_words, drawn_works, names_of


def plans_of(works):
    """The plan of each order that is not refused."""
    for order in itertools.permutations(names_of(works)):
        try:
            yield plan(works, list(order))
        except Ring:
            pass


class BeatsTest(unittest.TestCase):
    def one_by_one(self, works, own, taken, now, doors):
        """The taken rules done by the plain machine, each of them let by; told is what each of them begins with."""
        states = {}
        for name in taken:
            self.assertTrue(can(works, name, now, doors), (works, own, name))
            states[name] = now
            now = do(works, name, now, doors)
        return states, now

    def held(self, works, own, wires, now, doors):
        taken, left, behind = beat(works, own, now, doors)
        self.assertEqual(tick(works, wires, now, doors), (taken, behind), (works, own, now, doors))
        row = names_of(works)
        self.assertEqual(taken, [name for name in own[0] if name in taken])
        states, last = self.one_by_one(works, own, taken, now, doors)
        self.assertEqual(last, behind)
        self.assertEqual(do_row(works, taken, now, doors), behind)
        for pair in itertools.combinations(taken, 2):
            self.assertNotIn(pair, own[2])
            self.assertIsNone(clash(works, *pair))
        if any(can(works, name, now, doors) for name in row):
            self.assertNotEqual(taken, [])
        for name in row:
            if name not in taken:
                self.not_taken(works, own, name, (taken, left), now, doors)
        return taken, left, behind

    def not_taken(self, works, own, name, told, now, doors):
        """Its guard does not hold as it sees, or a more urgent rule is told that was taken and clashes with it."""
        taken, left = told
        ahead = own[0][:own[0].index(name)]
        late = do_row(works, [other for other in taken if other in ahead], now, doors)
        if worth(rule_of(works, name)[1], widths_of(works), now, late, doors) == 0:
            self.assertNotIn(name, dict(left))
            return
        other = dict(left)[name]
        row = names_of(works)
        self.assertIn(other, taken)
        self.assertLess(row.index(other), row.index(name))
        self.assertIsNotNone(clash(works, *sorted((name, other), key=own[0].index)))

    def run_held(self, works, own, chance, seen):
        """Five beats from the first words on, with drawn words at the doors; what is met is counted."""
        wires = wired(works, own)
        now = wired_now = first_words(works)
        for _ in range(5):
            doors = drawn_words(chance, widths_of(works)[1])
            taken, left, now = self.held(works, own, wires, now, doors)
            # The wires go on from what they came to themselves.
            wired_taken, wired_now = tick(works, wires, wired_now, doors)
            self.assertEqual((wired_taken, wired_now), (taken, now))
            seen["several"] += len(taken) > 1
            seen["left"] += len(left) > 0
            seen["unlike"] += taken != [name for name in names_of(works) if name in taken]
            seen["late"] += any(set(written(works, one)) & set(read_late(works, other))
                                for one, other in itertools.combinations(taken, 2))

    def test_runs_by_each_order(self):
        chance = random.Random(3)
        seen = {"several": 0, "left": 0, "unlike": 0, "late": 0}
        for _ in range(40):
            works = drawn_works(chance, chance.randrange(1, 5))
            for own in plans_of(works):
                self.run_held(works, own, chance, seen)
        self.assertGreater(min(seen.values()), 100)

    def test_runs_of_many_bits(self):
        chance = random.Random(64)
        seen = {"several": 0, "left": 0, "unlike": 0, "late": 0}
        for _ in range(25):
            works = drawn_works(chance, chance.randrange(1, 4), deep=4, widths=MANY_BITS)
            for own in plans_of(works):
                self.run_held(works, own, chance, seen)
        self.assertGreater(min(seen.values()), 10)

    def test_from_any_state(self):
        chance = random.Random(33)
        for _ in range(60):
            works = drawn_works(chance, chance.randrange(2, 9), deep=4)
            names = names_of(works)
            for own, many in ((own_plan(works), 8), (plan(works, names), 1)):
                wires = wired(works, own)
                for _ in range(many):
                    self.held(works, own, wires, *[drawn_words(chance, widths) for widths in widths_of(works)])

    def test_no_order_has_fewer_clashes_than_the_cheapest(self):
        chance = random.Random(333)
        for _ in range(15):
            works = drawn_works(chance, chance.randrange(1, 5))
            fewest = len(clashes_of(works, cheapest(works)))
            for order in itertools.permutations(names_of(works)):
                self.assertLessEqual(fewest, len(clashes_of(works, list(order))))


class SayingsTest(unittest.TestCase):
    def holds_behind_each_beat(self, works, own, sayings, rows):
        """The wires, and the beat machine beside them, go on from the first words."""
        wires = wired(works, own)
        widths = widths_of(works)
        now = first_words(works)
        for doors in rows:
            behind = beat(works, own, now, doors)[2]
            now = tick(works, wires, now, doors)[1]
            self.assertEqual(now, behind)
            for saying in sayings:
                self.assertEqual(worth(saying, widths, now, now, {}), 1, (works, own, saying))

    def not_all_words_keep(self, works, saying):
        """Whether there are words, come to or not, for which the saying is 0."""
        boxes = widths_of(works)[0]
        for words in itertools.product(*[range(2 ** width) for width in boxes.values()]):
            now = dict(zip(boxes, words))
            if worth(saying, (boxes, {}), now, now, {}) == 0:
                return True
        return False

    def test_drawn_sayings_that_are_kept(self):
        chance = random.Random(33)
        many = 0
        for _ in range(60):
            works = drawn_works(chance, chance.randrange(2, 5))
            drawn = [drawn_term(chance, 1, 3, FEW_BITS[0], {}) for _ in range(20)]
            sayings = [saying for saying in drawn if kept(works, saying, 64)[0] == "kept"]
            many += sum(self.not_all_words_keep(works, saying) for saying in sayings)
            rows = [drawn_words(chance, widths_of(works)[1]) for _ in range(6)]
            for own in plans_of(works):
                self.holds_behind_each_beat(works, own, sayings, rows)
        self.assertGreater(many, 100)

    def test_the_states_that_are_told_with_it(self):
        chance = random.Random(3333)
        for _ in range(30):
            works = drawn_works(chance, chance.randrange(2, 6))
            states = kept(works, ("num", 1, 1), 64)[1]
            for own in (own_plan(works), plan(works, names_of(works))):
                wires, now = wired(works, own), first_words(works)
                for _ in range(12):
                    now = tick(works, wires, now, drawn_words(chance, widths_of(works)[1]))[1]
                    self.assertIn(tuple(now[box[0]] for box in works[0]), states)

    def test_sayings_of_lines(self):
        # The first station makes each thing odd, the next one keeps it so: wherever a pipe is full its item is odd.
        chance = random.Random(31)
        for sorts in all_sorts([2]):
            works = line(2, sorts, [("or", 1), ("plus", 2), ("xor", 1)])
            sayings = [("or", ("not", ("box", "full" + letter)), ("part", ("late", "item" + letter), 0, 1))
                       for letter in "ab"]
            sayings.append(("not", ("part", ("box", "shown"), 0, 1)))
            for saying in sayings:
                self.assertEqual(kept(works, saying, 300)[0], "kept")
            rows = [drawn_words(chance, widths_of(works)[1]) for _ in range(12)]
            for own in plans_of(works):
                self.holds_behind_each_beat(works, own, sayings, rows)

    def test_a_broken_saying_need_not_be_broken_by_the_wires(self):
        works = line(1, ["short"], [("xor", 0), ("xor", 0)])
        never_full = ("not", ("box", "fulla"))
        self.assertEqual(kept(works, never_full, 300), ("broken", [("worka", (1, 0))]))
        rows = [{"has": 1, "thing": number % 2} for number in range(8)]
        self.holds_behind_each_beat(works, plan(works, ["worka", "workb"]), [never_full], rows)


if __name__ == "__main__":
    unittest.main()
