"""Point 27: houses keep a state and go on beat by beat."""

import copy
import itertools
import random
import unittest

from beatwright.beats import run
from beatwright.houses import BeatHouse, House, WireHouse
from beatwright.plain import can, do
from beatwright.plans import own_plan, plan
from beatwright.works import first_words, made, widths_of
from tests.samples import MANY_BITS, NO, YES, drawn_words, drawn_works, names_of

KINDS = (House, BeatHouse, WireHouse)
NONE = made([], [], [])
WORKS = made([("full", 1, 0), ("item", 4, 3), ("shown", 4, 5)], [("has", 1), ("thing", 4)], [
    ("take", ("door", "has"), [("full", YES), ("item", ("door", "thing"))]),
    ("show", ("late", "full"), [("full", NO), ("shown", ("late", "item"))]),
])
ROWS = [{"has": 0, "thing": 1}, {"has": 1, "thing": 9}, {"has": 1, "thing": 2}, {"has": 0, "thing": 7},
        {"has": 0, "thing": 8}]


def state(full, item, shown):
    return {"full": full, "item": item, "shown": shown}


class HouseCase(unittest.TestCase):
    def beats(self, house, rows):
        """The names taken and the state behind each beat; what is handed in stays."""
        told = []
        for doors in rows:
            handed = dict(doors)
            taken = house.beat(doors)
            self.assertEqual(doors, handed)
            self.assertIs(type(taken), list)
            self.assertIs(type(house.told()), dict)
            told.append((taken, house.told()))
        return told


class KindsTest(unittest.TestCase):
    def test_neither_under_the_other(self):
        for kind in (BeatHouse, WireHouse):
            self.assertTrue(issubclass(kind, House))
            self.assertIsInstance(kind(WORKS, own_plan(WORKS)), House)
        self.assertFalse(issubclass(BeatHouse, WireHouse))
        self.assertFalse(issubclass(WireHouse, BeatHouse))

    def test_a_house_of_nothing(self):
        for kind in KINDS:
            house = kind(NONE, own_plan(NONE))
            self.assertEqual((house.told(), house.turns), ({}, 0))
            self.assertEqual((house.beat({}), house.told(), house.turns), ([], {}, 1))

    def test_a_house_without_rules(self):
        works = made([("a", 4, 9)], [("go", 1)], [])
        for kind in KINDS:
            house = kind(works, own_plan(works))
            self.assertEqual((house.beat({"go": 1}), house.told(), house.turns), ([], {"a": 9}, 1))


class BeginTest(unittest.TestCase):
    def test_the_first_words(self):
        for kind in KINDS:
            house = kind(WORKS, own_plan(WORKS))
            self.assertEqual(house.told(), state(0, 3, 5))
            self.assertEqual(house.turns, 0)
            self.assertIs(type(house.turns), int)

    def test_turns_grow_by_one(self):
        for kind in KINDS:
            house = kind(WORKS, own_plan(WORKS))
            taken = []
            for many, doors in enumerate(ROWS):
                self.assertEqual(house.turns, many)
                taken.append(house.beat(doors))
                self.assertEqual(house.turns, many + 1)
            self.assertIn([], taken)
            self.assertEqual(house.told(), house.told())
            self.assertEqual(house.turns, 5)

    def test_a_house_that_takes_none_for_long(self):
        for kind in KINDS:
            house = kind(WORKS, own_plan(WORKS))
            for many in range(1, 40):
                self.assertEqual((house.beat(ROWS[0]), house.turns, house.told()), ([], many, state(0, 3, 5)))


class PlainTest(HouseCase):
    def test_the_first_that_can_be_done(self):
        self.assertEqual(self.beats(House(WORKS, plan(WORKS, ["take", "show"])), ROWS), [
            ([], state(0, 3, 5)), (["take"], state(1, 9, 5)), (["take"], state(1, 2, 5)), (["show"], state(0, 2, 2)),
            ([], state(0, 2, 2)),
        ])
        self.assertEqual(self.beats(House(WORKS, plan(WORKS, ["show", "take"])), ROWS), [
            ([], state(0, 3, 5)), (["take"], state(1, 9, 5)), (["show"], state(0, 9, 9)), ([], state(0, 9, 9)),
            ([], state(0, 9, 9)),
        ])

    def test_by_the_order_of_the_plan(self):
        # Neither the row of the rules nor the settling.
        works = made([("a", 2, 0), ("b", 2, 0)], [], [
            ("x", YES, [("b", ("late", "a"))]), ("y", YES, [("a", ("num", 2, 1))]), ("z", NO, []),
        ])
        for order in itertools.permutations("xyz"):
            house = House(works, plan(works, list(order)))
            first = [name for name in order if name != "z"][0]
            self.assertEqual(house.beat({}), [first])
            self.assertEqual(house.told(), {"a": int(first == "y"), "b": 0})
        self.assertEqual(plan(works, ["z", "y", "x"])[1], ("y", "x", "z"))

    def test_early_and_late_are_the_same(self):
        works = made([("a", 4, 1), ("b", 4, 2)], [], [("swap", YES, [("a", ("late", "b")), ("b", ("box", "a"))])])
        house = House(works, own_plan(works))
        self.assertEqual(self.beats(house, 2 * [{}]), [(["swap"], {"a": 2, "b": 1}), (["swap"], {"a": 1, "b": 2})])

    def test_drawn_works(self):
        chance = random.Random(27)
        for _ in range(40):
            works = drawn_works(chance, chance.randrange(1, 6))
            own = chance.choice([own_plan(works), plan(works, names_of(works))])
            house, now = House(works, own), first_words(works)
            for _ in range(8):
                doors = drawn_words(chance, widths_of(works)[1])
                taken = [name for name in own[0] if can(works, name, now, doors)][:1]
                if taken:
                    now = do(works, taken[0], now, doors)
                self.assertEqual(self.beats(house, [doors]), [(taken, now)])


class BeatsTest(HouseCase):
    def test_many_rules_in_one_beat(self):
        for kind in (BeatHouse, WireHouse):
            self.assertEqual(self.beats(kind(WORKS, plan(WORKS, ["take", "show"])), ROWS), [
                ([], state(0, 3, 5)), (["take", "show"], state(0, 9, 9)), (["take", "show"], state(0, 2, 2)),
                ([], state(0, 2, 2)), ([], state(0, 2, 2)),
            ])
            self.assertEqual(self.beats(kind(WORKS, plan(WORKS, ["show", "take"])), ROWS), [
                ([], state(0, 3, 5)), (["take"], state(1, 9, 5)), (["show", "take"], state(1, 2, 9)),
                (["show"], state(0, 2, 2)), ([], state(0, 2, 2)),
            ])

    def test_both_go_on_as_runs_do(self):
        chance = random.Random(270)
        for number in range(60):
            few = number % 4 > 0
            works = drawn_works(chance, chance.randrange(1, 6)) if few else drawn_works(chance, 3, widths=MANY_BITS)
            own = chance.choice([own_plan(works), plan(works, names_of(works))])
            rows = [drawn_words(chance, widths_of(works)[1]) for _ in range(8)]
            asked = run(works, own, rows)
            for kind in (BeatHouse, WireHouse):
                self.assertEqual(self.beats(kind(works, own), rows), asked)


class OwnTest(HouseCase):
    def test_the_state_told_is_the_askers_own(self):
        for kind in KINDS:
            house = kind(WORKS, own_plan(WORKS))
            for doors in [None, *ROWS]:
                if doors is not None:
                    house.beat(doors)
                told = house.told()
                asked = dict(told)
                told["full"] = 1 - told["full"]
                told["more"] = 9
                self.assertEqual(house.told(), asked)
                house.told().clear()
                self.assertEqual(house.told(), asked)
            self.assertEqual(first_words(WORKS), state(0, 3, 5))

    def test_what_was_told_stays(self):
        for kind in KINDS:
            house = kind(WORKS, own_plan(WORKS))
            told = [house.told()]
            taken = []
            for doors in ROWS:
                taken.append(house.beat(doors))
                told.append(house.told())
            asked = copy.deepcopy((told, taken))
            house.beat(ROWS[1])
            house.beat(ROWS[2])
            self.assertEqual((told, taken), asked)

    def test_the_names_told_are_the_askers_own(self):
        for kind in KINDS:
            house, another = [kind(WORKS, own_plan(WORKS)) for _ in range(2)]
            for doors in ROWS:
                taken = house.beat(doors)
                taken.append("more")
                taken.append("yet more")
                another.beat(doors)
                self.assertEqual(house.told(), another.told())

    def test_the_words_handed_in_are_not_kept(self):
        for kind in KINDS:
            house, another = [kind(WORKS, own_plan(WORKS)) for _ in range(2)]
            for row in ROWS:
                doors = dict(row)
                taken = house.beat(doors)
                self.assertEqual(doors, row)
                doors.clear()
                self.assertEqual(another.beat(row), taken)
                self.assertEqual(house.told(), another.told())

    def test_houses_are_apart(self):
        own = own_plan(WORKS)
        for kind in KINDS:
            one, other = kind(WORKS, own), kind(WORKS, own)
            one.beat(ROWS[1])
            self.assertEqual((other.told(), other.turns), (state(0, 3, 5), 0))
            self.assertEqual(one.turns, 1)
            other.beat(ROWS[2])
            self.assertEqual(one.told()["item"], 9)
            self.assertEqual(other.told()["item"], 2)
            third = kind(WORKS, plan(WORKS, ["show", "take"]))
            self.assertEqual((third.told(), third.turns), (state(0, 3, 5), 0))
        houses = [kind(WORKS, own) for kind in KINDS]
        houses[0].beat(ROWS[1])
        self.assertEqual([house.turns for house in houses], [1, 0, 0])
        self.assertEqual([house.told() for house in houses[1:]], 2 * [state(0, 3, 5)])

    def test_the_works_and_the_plan_stay(self):
        own = own_plan(WORKS)
        handed = copy.deepcopy((WORKS, own))
        for kind in KINDS:
            self.beats(kind(WORKS, own), ROWS)
            self.assertEqual((WORKS, own), handed)


if __name__ == "__main__":
    unittest.main()
