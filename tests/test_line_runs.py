"""Point 31: things go down a line, by each order of its rules, in the beat machine and by the wires."""

import itertools
import random
import unittest

from beatwright.beats import beat
from beatwright.lines import line
from beatwright.orders import cheapest, clashes_of
from beatwright.plans import own_plan, plan, ring
from beatwright.wires import tick, wired
from beatwright.works import first_words
from tests.samples import all_sorts, drawn_stations, names_of


def led_by(width, stations, thing):
    """What a thing becomes as it goes by some stations."""
    for word, number in stations:
        thing = {
            "plus": thing + number, "minus": thing - number, "xor": thing ^ number, "and": thing & number,
            "or": thing | number,
        }[word] % 2 ** width
    return thing


class Drawn:
    """A drawn line with its works, and rows of words at its doors."""

    def __init__(self, chance, sorts):
        self.chance = chance
        self.sorts = sorts
        self.width = chance.choice([1, 2, 3, 8, 64])
        self.stations = drawn_stations(chance, self.width, len(sorts) + 1)
        self.works = line(self.width, sorts, self.stations)
        self.names = names_of(self.works)

    def rows(self, many):
        seldom = self.chance.choice([1, 2, 4])
        return [{"has": int(self.chance.randrange(seldom) == 0), "thing": self.chance.randrange(2 ** self.width)}
                for _ in range(many)]

    def full(self, now):
        """The pipes that are full, the last one first."""
        return [pipe for pipe in reversed(range(len(self.sorts))) if now["full" + "abcde"[pipe]] == 1]

    def on_the_way(self, now):
        """What is in the full pipes, nearest to the end first, with the pipe."""
        return [(pipe, now["item" + "abcde"[pipe]]) for pipe in self.full(now)]


class RunCase(unittest.TestCase):
    def beats(self, drawn, own, rows, now):
        """Tuples (words at the doors, names taken, state behind); the wires do the same."""
        wires = wired(drawn.works, own)
        told = []
        for doors in rows:
            taken, _, behind = beat(drawn.works, own, now, doors)
            self.assertEqual(tick(drawn.works, wires, now, doors), (taken, behind))
            told.append((doors, taken, behind))
            now = behind
        return told

    def followed(self, drawn, own, many):
        """Things come for some beats, and then none come any more until the line must be empty."""
        pipes = len(drawn.sorts)
        empty_by = pipes * (pipes + 1) // 2
        rows = drawn.rows(many) + [{"has": 0, "thing": drawn.chance.randrange(2 ** drawn.width)}] * empty_by
        came, shown = [], []
        for doors, taken, now in self.beats(drawn, own, rows, first_words(drawn.works)):
            if drawn.names[0] in taken:
                self.assertEqual(doors["has"], 1)
                came.append(doors["thing"])
            if drawn.names[-1] in taken:
                shown.append(now["shown"])
            self.assertEqual(shown, [led_by(drawn.width, drawn.stations, thing) for thing in came[:len(shown)]])
            full = drawn.full(now)
            self.assertEqual(len(full), len(came) - len(shown))
            self.assertEqual(drawn.on_the_way(now), [(pipe, led_by(drawn.width, drawn.stations[:pipe + 1], thing))
                                                     for pipe, thing in zip(full, came[len(shown):])])
        self.assertEqual(drawn.full(now), [])
        self.assertEqual(len(shown), len(came))
        return len(shown)


class OrdersTest(unittest.TestCase):
    def each_order(self, sorts, chance):
        drawn = Drawn(chance, sorts)
        for order in itertools.permutations(drawn.names):
            told = plan(drawn.works, list(order))
            self.assertEqual(told[0], order)
            self.assertEqual(sorted(told[1]), drawn.names)

    def test_no_order_of_up_to_three_pipes_is_refused(self):
        chance = random.Random(31)
        for sorts in all_sorts(range(1, 4)):
            self.each_order(sorts, chance)

    def test_no_order_of_more_pipes_is_refused(self):
        chance = random.Random(310)
        for sorts in chance.sample(all_sorts([4]), 4) + chance.sample(all_sorts([5]), 1):
            self.each_order(sorts, chance)

    def test_no_drawn_order_has_a_ring(self):
        chance = random.Random(3100)
        for sorts in chance.sample(all_sorts([5]), 60):
            drawn = Drawn(chance, sorts)
            self.assertEqual(ring(drawn.works, chance.sample(drawn.names, 6)), [])

    def test_the_cheapest_order_has_no_clash(self):
        chance = random.Random(13)
        for sorts in all_sorts(range(1, 5)) + chance.sample(all_sorts([5]), 40):
            drawn = Drawn(chance, sorts)
            order = cheapest(drawn.works)
            self.assertEqual(clashes_of(drawn.works, order), [])
            self.assertEqual(own_plan(drawn.works), plan(drawn.works, order))


class ThingsTest(RunCase):
    def test_each_order_of_up_to_two_pipes(self):
        chance = random.Random(131)
        shown = 0
        for sorts in all_sorts([1, 2]):
            drawn = Drawn(chance, sorts)
            for order in itertools.permutations(drawn.names):
                shown += self.followed(drawn, plan(drawn.works, list(order)), 8)
        self.assertGreater(shown, 60)

    def test_drawn_orders_of_more_pipes(self):
        chance = random.Random(1310)
        shown = 0
        for sorts in all_sorts([3]) + chance.sample(all_sorts([4, 5]), 50):
            drawn = Drawn(chance, sorts)
            for order in (drawn.names, drawn.names[::-1], chance.sample(drawn.names, len(drawn.names))):
                shown += self.followed(drawn, plan(drawn.works, order), 10)
            shown += self.followed(drawn, own_plan(drawn.works), 10)
        self.assertGreater(shown, 600)

    def test_a_full_line_runs_empty(self):
        for many in range(1, 6):
            for sort in ("calm", "slide", "short"):
                works = line(8, [sort] * many, [("plus", 1)] * (many + 1))
                now = dict(first_words(works))
                for pipe in range(many):
                    now.update({"full" + "abcde"[pipe]: 1, "item" + "abcde"[pipe]: 50 - pipe})
                for order in (names_of(works), names_of(works)[::-1]):
                    self.runs_empty(works, plan(works, order), now, many)

    def runs_empty(self, works, own, now, many):
        wires = wired(works, own)
        shown = []
        for _ in range(many * (many + 1) // 2):
            taken, now = tick(works, wires, now, {"has": 0, "thing": 7})
            shown += [now["shown"]] if names_of(works)[-1] in taken else []
        self.assertEqual(shown, [50 - pipe + many - pipe for pipe in reversed(range(many))])
        self.assertEqual([now["full" + "abcde"[pipe]] for pipe in range(many)], [0] * many)


class CheapestTest(RunCase):
    def test_where_no_pipe_is_calm(self):
        chance = random.Random(113)
        for sorts in all_sorts(range(1, 6), ["slide", "short"]):
            drawn = Drawn(chance, sorts)
            slides = sorts.count("slide")
            rows = drawn.rows(9) + [{"has": 1, "thing": 1}] * 3 + [{"has": 0, "thing": 0}] * slides
            told = self.beats(drawn, own_plan(drawn.works), rows, first_words(drawn.works))
            for number, (doors, taken, _) in enumerate(told):
                self.assertEqual(drawn.names[0] in taken, doors["has"] == 1)
                came = number >= slides and told[number - slides][0]["has"] == 1
                self.assertEqual(drawn.names[-1] in taken, came)
                if came:
                    self.assertEqual(told[number][2]["shown"],
                                     led_by(drawn.width, drawn.stations, told[number - slides][0]["thing"]))

    def test_short_pipes_show_in_the_same_beat(self):
        works = line(8, ["short", "short"], [("plus", 1), ("plus", 2), ("plus", 3)])
        taken, left, now = beat(works, own_plan(works), first_words(works), {"has": 1, "thing": 10})
        self.assertEqual((sorted(taken), left, now["shown"]), (["worka", "workb", "workc"], [], 16))
        self.assertEqual((now["fulla"], now["fullb"]), (0, 0))

    def test_slide_pipes_move_all_at_once(self):
        works = line(8, ["slide", "slide"], [("plus", 1), ("plus", 2), ("plus", 3)])
        now, taken = first_words(works), []
        for thing in (10, 20, 30):
            taken, _, now = beat(works, own_plan(works), now, {"has": 1, "thing": thing})
        self.assertEqual(sorted(taken), ["worka", "workb", "workc"])
        self.assertEqual(now, {"fulla": 1, "itema": 31, "fullb": 1, "itemb": 23, "shown": 16})

    def test_a_calm_pipe_takes_every_other_beat(self):
        works = line(8, ["calm"], [("plus", 1), ("plus", 2)])
        now, told = first_words(works), []
        for thing in (10, 20, 30, 40):
            taken, _, now = beat(works, own_plan(works), now, {"has": 1, "thing": thing})
            told.append((taken, now["shown"]))
        self.assertEqual(told, [(["worka"], 0), (["workb"], 13), (["worka"], 13), (["workb"], 33)])


if __name__ == "__main__":
    unittest.main()
