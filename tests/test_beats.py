"""Points 21 and 22: what a beat takes, leaves and leads to, and runs."""

import copy
import itertools
import random
import unittest

from beatwright.beats import beat, run
from beatwright.errors import Ring
from beatwright.plans import own_plan, plan
from beatwright.terms import worth
from beatwright.works import first_words, made, rule_of, widths_of
from tests.samples import NO, YES, drawn_words, drawn_works, names_of

NONE = made([], [], [])
BOXES = [("a", 4, 1), ("b", 4, 2), ("c", 4, 3), ("f", 1, 0)]
DOORS = [("go", 1), ("by", 4)]
PUT = ("put", ("door", "go"), [("a", ("door", "by"))])
GET = ("get", YES, [("b", ("late", "a"))])


def state(works, **words):
    return dict(first_words(works), **words)


def flags(text):
    """Words for the doors "goa", "gob", .. : 1 for those whose letters stand there."""
    return {"go" + letter: int(letter in text) for letter in "abcdef"}


def flagged(*rules):
    """As open_works, but each rule is let by where its own door has a 1, and adds 1 to the boxes that it writes."""
    boxes = [(letter * 2, 4, 0) for letter in "mnpq"]
    doors = [("go" + letter, 1) for letter in "abcdef"]
    made_rules = []
    for name, writes, early, late in rules:
        term = ("num", 4, 1)
        for leaf in [("box", 2 * box) for box in early] + [("late", 2 * box) for box in late]:
            term = ("plus", term, leaf)
        made_rules.append((name, ("door", "go" + name), [(2 * box, term) for box in writes]))
    return made(boxes, doors, made_rules)


class BeatCase(unittest.TestCase):
    def told(self, works, order, doors, **words):
        """What a beat tells by the plan of an order; what is handed in stays."""
        own = plan(works, list(order))
        now = state(works, **words)
        handed = copy.deepcopy((works, own, now, doors))
        told = beat(works, own, now, doors)
        self.assertEqual((works, own, now, doors), handed)
        self.assertEqual([type(part) for part in (told, *told)], [tuple, list, list, dict])
        self.assertEqual({type(pair) for pair in told[1]} - {tuple}, set())
        return told


class LateTest(BeatCase):
    WORKS = made(BOXES, DOORS, [PUT, GET])

    def test_what_a_rule_ahead_puts(self):
        told = self.told(self.WORKS, ["put", "get"], {"go": 1, "by": 9})
        self.assertEqual(told, (["put", "get"], [], state(self.WORKS, a=9, b=9)))

    def test_what_a_rule_behind_puts_is_not_seen(self):
        told = self.told(self.WORKS, ["get", "put"], {"go": 1, "by": 9})
        self.assertEqual(told, (["get", "put"], [], state(self.WORKS, a=9, b=1)))

    def test_a_rule_ahead_whose_guard_does_not_hold(self):
        told = self.told(self.WORKS, ["put", "get"], {"go": 0, "by": 9})
        self.assertEqual(told, (["get"], [], state(self.WORKS, b=1)))

    def test_a_rule_ahead_that_is_left(self):
        stop = ("stop", ("box", "f"), [("c", ("num", 4, 0))])
        put = ("put", ("door", "go"), [("a", ("plus", ("box", "c"), ("door", "by")))])
        works = made(BOXES, DOORS, [stop, put, GET])
        for order in [["stop", "put", "get"], ["stop", "get", "put"]]:
            seen = 6 if order[1] == "put" else 1
            told = self.told(works, order, {"go": 1, "by": 3}, f=0)
            self.assertEqual(told, (order[1:], [], state(works, a=6, b=seen)))
            told = self.told(works, order, {"go": 1, "by": 3}, f=1)
            self.assertEqual(told, (["stop", "get"], [("put", "stop")], state(works, f=1, c=0, b=1)))

    def test_the_last_one_ahead_that_is_taken(self):
        rules = [("puta", ("door", "go"), [("a", ("num", 4, 7))]), ("putb", ("late", "f"), [("a", ("num", 4, 8))]), GET]
        works = made(BOXES, DOORS, rules)
        for order in itertools.permutations(names_of(works)):
            for go, full in itertools.product([0, 1], repeat=2):
                words = {"puta": 7 if go else None, "putb": 8 if full else None, "get": None}
                seen = [words[name] for name in order[:order.index("get")] if words[name]]
                put = [words[name] for name in order if words[name]]
                told = self.told(works, order, {"go": go, "by": 0}, f=full)
                taken = [name for name in order if words[name] or name == "get"]
                self.assertEqual(told, (taken, [], state(works, f=full, a=([1] + put)[-1], b=([1] + seen)[-1])))

    def test_a_guard_that_reads_late(self):
        works = made(BOXES, DOORS, [
            ("show", ("late", "f"), [("b", ("late", "a")), ("f", NO)]),
            ("fill", ("door", "go"), [("a", ("door", "by")), ("f", YES)]),
        ])
        told = self.told(works, ["fill", "show"], {"go": 1, "by": 9})
        self.assertEqual(told, (["fill", "show"], [], state(works, a=9, b=9, f=0)))
        told = self.told(works, ["show", "fill"], {"go": 1, "by": 9})
        self.assertEqual(told, (["fill"], [], state(works, a=9, f=1)))
        told = self.told(works, ["show", "fill"], {"go": 1, "by": 9}, f=1, a=5)
        self.assertEqual(told, (["show", "fill"], [], state(works, a=9, b=5, f=1)))
        told = self.told(works, ["fill", "show"], {"go": 0, "by": 9})
        self.assertEqual(told, ([], [], state(works)))

    def test_a_guard_that_a_rule_ahead_shuts(self):
        works = made(BOXES, DOORS, [("drain", YES, [("f", NO)]), ("show", ("late", "f"), [("b", ("late", "a"))])])
        self.assertEqual(self.told(works, ["drain", "show"], {"go": 0, "by": 0}, f=1), (["drain"], [], state(works)))
        told = self.told(works, ["show", "drain"], {"go": 0, "by": 0}, f=1)
        self.assertEqual(told, (["show", "drain"], [], state(works, b=1)))

    def test_a_long_way_within_one_beat(self):
        works = made([("b" + letter, 8, 0) for letter in "abcdefgh"], [("by", 8)], [
            ("ra", YES, [("ba", ("door", "by"))]),
            *[("r" + letter, YES, [("b" + letter, ("plus", ("late", "b" + before), ("num", 8, 1)))])
              for before, letter in zip("abcdefg", "bcdefgh")],
        ])
        names = names_of(works)
        told = self.told(works, names, {"by": 250})
        self.assertEqual(told, (names, [], {"b" + letter: (250 + k) % 256 for k, letter in enumerate("abcdefgh")}))
        told = self.told(works, names[::-1], {"by": 250})
        self.assertEqual(told[2], dict({"b" + letter: 1 for letter in "bcdefgh"}, ba=250))

    def test_a_rule_does_not_see_its_own_words(self):
        works = made(BOXES, DOORS, [("swap", YES, [("a", ("late", "b")), ("b", ("late", "a")), ("c", ("box", "a"))])])
        self.assertEqual(self.told(works, ["swap"], {"go": 0, "by": 0}), (["swap"], [], state(works, a=2, b=1, c=1)))


class EarlyTest(BeatCase):
    def test_early_words_are_those_as_the_beat_begins(self):
        # The two that exchange their words read late what only a rule behind them writes.
        works = made(BOXES, DOORS, [
            ("left", YES, [("a", ("box", "b"))]), ("right", ("door", "go"), [("b", ("late", "a"))]),
        ])
        told = self.told(works, ["right", "left"], {"go": 0, "by": 0})
        self.assertEqual(told, (["left"], [], state(works, a=2)))
        told = self.told(works, ["left", "right"], {"go": 1, "by": 0})
        self.assertEqual(told, (["left", "right"], [], state(works, a=2, b=2)))

    def test_a_guard_that_reads_early_what_a_rule_ahead_writes(self):
        works = made(BOXES, DOORS, [
            ("fill", YES, [("f", YES)]),
            ("low", ("not", ("box", "f")), [("a", ("num", 4, 9))]),
            ("high", ("box", "f"), [("b", ("num", 4, 9))]),
        ])
        order = ["fill", "low", "high"]
        told = self.told(works, order, {"go": 0, "by": 0}, f=0)
        self.assertEqual(told, (["fill"], [("low", "fill")], state(works, f=1)))
        told = self.told(works, order, {"go": 0, "by": 0}, f=1)
        self.assertEqual(told, (["fill"], [("high", "fill")], state(works, f=1)))

    def test_early_and_late_of_one_box(self):
        works = made(BOXES, DOORS, [
            ("see", YES, [("b", ("box", "a")), ("c", ("late", "a"))]),
            ("put", ("door", "go"), [("a", ("door", "by"))]),
        ])
        with self.assertRaises(Ring):
            plan(works, ["put", "see"])
        told = self.told(works, ["see", "put"], {"go": 1, "by": 9})
        self.assertEqual(told, (["see", "put"], [], state(works, a=9, b=1, c=1)))
        works = made(works[0], works[1], works[2][::-1])
        told = self.told(works, ["put", "see"], {"go": 1, "by": 9})
        self.assertEqual(told, (["put"], [("see", "put")], state(works, a=9)))
        told = self.told(works, ["put", "see"], {"go": 0, "by": 9})
        self.assertEqual(told, (["see"], [], state(works, b=1, c=1)))


class ClashesTest(BeatCase):
    def test_left_for_a_more_urgent_rule(self):
        works = flagged(("a", "m", "m", ""), ("b", "m", "m", ""))
        for order in ["ab", "ba"]:
            self.assertEqual(self.told(works, order, flags("ab")), (["a"], [("b", "a")], state(works, mm=1)))
            self.assertEqual(self.told(works, order, flags("b")), (["b"], [], state(works, mm=1)))
            self.assertEqual(self.told(works, order, flags("a")), (["a"], [], state(works, mm=1)))
            self.assertEqual(self.told(works, order, flags("")), ([], [], state(works)))

    def test_a_less_urgent_rule_ahead_is_left(self):
        works = flagged(("a", "n", "m", ""), ("b", "m", "", ""))
        self.assertEqual(self.told(works, "ba", flags("ab")), (["a"], [("b", "a")], state(works, nn=1)))
        self.assertEqual(self.told(works, "ab", flags("ab")), (["a", "b"], [], state(works, nn=1, mm=1)))

    def test_the_clashes_of_the_plan_alone(self):
        works = flagged(("a", "m", "", ""), ("b", "n", "m", ""))
        self.assertEqual(self.told(works, "ab", flags("ab"))[:2], (["a"], [("b", "a")]))
        self.assertEqual(self.told(works, "ba", flags("ab"))[:2], (["b", "a"], []))

    def test_one_that_is_left_stops_none(self):
        works = flagged(("a", "m", "", ""), ("b", "n", "m", ""), ("c", "p", "n", ""))
        self.assertEqual(self.told(works, "abc", flags("abc"))[:2], (["a", "c"], [("b", "a")]))
        self.assertEqual(self.told(works, "abc", flags("bc"))[:2], (["b"], [("c", "b")]))
        self.assertEqual(self.told(works, "abc", flags("c"))[:2], (["c"], []))

    def test_the_most_urgent_one_of_several(self):
        works = flagged(("a", "m", "", ""), ("b", "n", "", ""), ("c", "p", "", ""), ("d", "q", "mnp", ""))
        for order in itertools.permutations("abcd"):
            ahead = order[:order.index("d")]
            for text in ["abcd", "bcd", "acd", "cd", "bd", "d"]:
                stops = [name for name in "abc" if name in ahead and name in text]
                taken = [name for name in order if name in text and (name != "d" or not stops)]
                told = self.told(works, order, flags(text))
                self.assertEqual(told[:2], (taken, [("d", stops[0])] if stops else []))

    def test_left_in_the_order_of_the_row(self):
        works = flagged(("a", "m", "", ""), ("b", "n", "m", ""), ("c", "p", "m", ""), ("d", "q", "m", ""))
        for order in itertools.permutations("abcd"):
            ahead = order[:order.index("a")]
            told = self.told(works, order, flags("abcd"))
            self.assertEqual(told[:2], ([*ahead, "a"], [(name, "a") for name in "bcd" if name not in ahead]))

    def test_left_in_the_row_where_the_settling_is_another_one(self):
        works = flagged(("a", "m", "m", ""), ("b", "q", "m", "p"), ("d", "n", "m", ""), ("c", "p", "", ""))
        self.assertEqual(plan(works, list("cadb"))[1], ("a", "d", "c", "b"))
        told = self.told(works, "cadb", flags("abcd"))
        self.assertEqual(told[:2], (["c", "a"], [("b", "a"), ("d", "a")]))

    def test_the_guard_as_a_left_rule_sees(self):
        works = made(BOXES, DOORS, [
            ("stop", YES, [("c", ("num", 4, 0))]),
            ("fill", ("door", "go"), [("f", YES)]),
            ("show", ("late", "f"), [("b", ("box", "c"))]),
        ])
        order = ["fill", "stop", "show"]
        told = self.told(works, order, {"go": 1, "by": 0})
        self.assertEqual(told[:2], (["fill", "stop"], [("show", "stop")]))
        self.assertEqual(self.told(works, order, {"go": 0, "by": 0})[:2], (["stop"], []))

    def test_guards_that_never_both_hold(self):
        low = ("less", ("box", "a"), ("num", 4, 5))
        rules = [("up", low, [("a", ("num", 4, 5))]), ("down", ("not", low), [("a", ("num", 4, 4))])]
        works = made(BOXES, DOORS, rules)
        for order in [["up", "down"], ["down", "up"]]:
            self.assertEqual(plan(works, order)[2], ())
            self.assertEqual(self.told(works, order, {"go": 0, "by": 0}, a=4), (["up"], [], state(works, a=5)))
            self.assertEqual(self.told(works, order, {"go": 0, "by": 0}, a=5), (["down"], [], state(works, a=4)))


class TakenTest(BeatCase):
    def test_the_names_in_the_order_of_the_plan(self):
        works = flagged(("a", "m", "", ""), ("b", "m", "", ""), ("c", "n", "", ""))
        for order in itertools.permutations("abc"):
            for text in ["abc", "ab", "bc", "ac", "c", ""]:
                self.assertEqual(self.told(works, order, flags(text))[0], [name for name in order if name in text])

    def test_two_that_write_the_same_box(self):
        rules = [("x", YES, [("a", ("num", 4, 7)), ("b", ("num", 4, 7))]), ("y", YES, [("a", ("num", 4, 8))])]
        works = made(BOXES, DOORS, rules)
        doors = {"go": 0, "by": 0}
        self.assertEqual(self.told(works, "xy", doors), (["x", "y"], [], state(works, a=8, b=7)))
        self.assertEqual(self.told(works, "yx", doors), (["y", "x"], [], state(works, a=7, b=7)))

    def test_a_rule_without_writes(self):
        works = made(BOXES, DOORS, [("rest", ("door", "go"), [])])
        self.assertEqual(self.told(works, ["rest"], {"go": 1, "by": 0}), (["rest"], [], state(works)))
        self.assertEqual(self.told(works, ["rest"], {"go": 0, "by": 0}), ([], [], state(works)))

    def test_no_rules_and_no_boxes(self):
        self.assertEqual(self.told(NONE, [], {}), ([], [], {}))
        works = made(BOXES, [], [])
        self.assertEqual(self.told(works, [], {}, a=9), ([], [], state(works, a=9)))

    def test_what_is_told_is_the_askers_own(self):
        works = flagged(("a", "m", "m", ""), ("b", "m", "m", ""))
        own, now, doors = plan(works, ["a", "b"]), first_words(works), flags("ab")
        asked = copy.deepcopy(beat(works, own, now, doors))
        for _ in range(2):
            told = beat(works, own, now, doors)
            self.assertEqual(told, asked)
            for part in told:
                part.clear()
        self.assertEqual((now, doors), (first_words(works), flags("ab")))

    def test_the_state_behind_is_a_new_one_where_none_is_taken(self):
        works = flagged(("a", "m", "m", ""))
        now = first_words(works)
        told = beat(works, own_plan(works), now, flags(""))
        told[2]["mm"] = 9
        self.assertEqual(now["mm"], 0)


class RunTest(unittest.TestCase):
    WORKS = made(BOXES, DOORS, [
        ("add", ("door", "go"), [("a", ("plus", ("box", "a"), ("door", "by")))]),
        ("copy", YES, [("b", ("late", "a"))]),
    ])

    def test_no_rows(self):
        self.assertEqual(run(self.WORKS, own_plan(self.WORKS), []), [])
        self.assertEqual(run(NONE, own_plan(NONE), []), [])

    def test_one_and_several(self):
        rows = [{"go": 1, "by": 5}, {"go": 0, "by": 7}, {"go": 1, "by": 12}, {"go": 1, "by": 0}]
        own = plan(self.WORKS, ["add", "copy"])
        asked = [
            (["add", "copy"], state(self.WORKS, a=6, b=6)),
            (["copy"], state(self.WORKS, a=6, b=6)),
            (["add", "copy"], state(self.WORKS, a=2, b=2)),
            (["add", "copy"], state(self.WORKS, a=2, b=2)),
        ]
        for many in range(5):
            handed = copy.deepcopy(rows[:many])
            told = run(self.WORKS, own, handed)
            self.assertEqual(told, asked[:many])
            self.assertEqual(handed, rows[:many])
            self.assertIs(type(told), list)
            self.assertEqual({type(pair) for pair in told} - {tuple}, set())
        self.assertEqual(run(self.WORKS, plan(self.WORKS, ["copy", "add"]), rows[:1]),
                         [(["copy", "add"], state(self.WORKS, a=6, b=1))])

    def test_rows_of_no_doors(self):
        self.assertEqual(run(NONE, own_plan(NONE), [{}, {}]), [([], {}), ([], {})])
        works = made([("n", 3, 6)], [], [("up", YES, [("n", ("plus", ("box", "n"), ("num", 3, 1)))])])
        self.assertEqual(run(works, own_plan(works), 4 * [{}]), [(["up"], {"n": word}) for word in (7, 0, 1, 2)])

    def test_what_is_told_of_each_beat_is_its_own(self):
        own = own_plan(self.WORKS)
        rows = 3 * [{"go": 1, "by": 1}]
        asked = copy.deepcopy(run(self.WORKS, own, rows))
        told = run(self.WORKS, own, rows)
        for place, (taken, behind) in enumerate(told):
            taken.clear()
            behind.clear()
            self.assertEqual(told[place + 1:], asked[place + 1:])
        self.assertEqual(run(self.WORKS, own, rows), asked)
        self.assertEqual(rows, 3 * [{"go": 1, "by": 1}])
        still = run(self.WORKS, own, [{"go": 0, "by": 0}, {"go": 0, "by": 0}])
        still[0][1]["a"] = 9
        self.assertEqual(still[1][1]["a"], 1)

    def test_it_goes_on_as_beats_do(self):
        chance = random.Random(22)
        for _ in range(30):
            works = drawn_works(chance, chance.randrange(1, 5))
            rows = [drawn_words(chance, widths_of(works)[1]) for _ in range(6)]
            own, now, asked = own_plan(works), first_words(works), []
            for doors in rows:
                taken, _, now = beat(works, own, now, doors)
                asked.append((taken, now))
            self.assertEqual(run(works, own, rows), asked)


def beats_by_point(works, own, now, doors):
    """All beats that keep to point 21, found by trying each set of rules as those that are taken."""
    order, _, clashes = own
    row = names_of(works)
    told = []
    for taken in itertools.product([False, True], repeat=len(row)):
        taken = [name for name, given in zip(row, taken) if given]
        words, guards, late = {}, {}, dict(now)
        for name in order:
            _, guard, writes = rule_of(works, name)
            guards[name] = worth(guard, widths_of(works), now, late, doors)
            words[name] = {box: worth(term, widths_of(works), now, late, doors) for box, term in writes}
            if name in taken:
                late = {**late, **words[name]}
        stops = {name: [other for other in row[:row.index(name)] if other in taken
                        and {(name, other), (other, name)} & set(clashes)] for name in row}
        if all((name in taken) == (guards[name] == 1 and not stops[name]) for name in row):
            left = [(name, stops[name][0]) for name in row if guards[name] == 1 and stops[name]]
            told.append(([name for name in order if name in taken], left, late))
    return told


class DrawnTest(BeatCase):
    def test_the_same_beat_another_way(self):
        chance = random.Random(21)
        seen = {"left": 0, "more": 0, "none": 0, "beats": 0}
        for _ in range(150):
            works = drawn_works(chance, chance.randrange(1, 5))
            order = chance.sample(names_of(works), len(works[2]))
            try:
                own = plan(works, order)
            except Ring:
                continue
            for _ in range(6):
                now, doors = [drawn_words(chance, widths) for widths in widths_of(works)]
                told = beat(works, own, now, doors)
                self.assertEqual([told], beats_by_point(works, own, now, doors))
                seen["beats"] += 1
                seen["left"] += len(told[1]) > 0
                seen["more"] += len(told[0]) > 1
                seen["none"] += len(told[0]) == 0
        self.assertGreater(min(seen.values()), 30)


if __name__ == "__main__":
    unittest.main()
