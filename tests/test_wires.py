"""Point 26: the wires of a works and a plan, and what a tick of them tells."""

import copy
import itertools
import random
import unittest

from beatwright.beats import beat
from beatwright.gates import settle
from beatwright.plans import own_plan, plan
from beatwright.wires import tick, wired
from beatwright.words import bits_of, word_of
from beatwright.works import first_words, made, widths_of
from tests.samples import NO, YES, drawn_words, drawn_works, ins_of, names_of, row_faults

NONE = made([], [], [])
BOXES = [("a", 4, 1), ("b", 4, 2), ("c", 4, 3), ("f", 1, 0)]
DOORS = [("go", 1), ("by", 4)]
PUT = ("put", ("door", "go"), [("a", ("door", "by"))])
GET = ("get", YES, [("b", ("late", "a"))])
FILL = ("fill", ("door", "go"), [("a", ("door", "by")), ("f", YES)])
SHOW = ("show", ("late", "f"), [("b", ("late", "a")), ("f", NO)])
UP = ("up", ("box", "f"), [("a", ("plus", ("box", "a"), ("num", 4, 1)))])
LINE = made(BOXES, DOORS, [FILL, SHOW, UP])


class WireCase(unittest.TestCase):
    def is_wired(self, works, own):
        """The wires, of the form that is promised; what is handed in stays."""
        handed = copy.deepcopy((works, own))
        wires = wired(works, own)
        self.assertEqual((works, own), handed)
        self.assertEqual([type(part) for part in (wires, *wires)], 4 * [tuple])
        rows, taken, boxes = wires
        self.assertEqual({type(part) for part in rows + taken + boxes}, {tuple})
        self.assertEqual(row_faults(list(rows)), [])
        widths = dict(zip(("box", "door"), widths_of(works)))
        for sort, name, place in ins_of(rows):
            self.assertIn(name, widths[sort])
            self.assertLess(place, widths[sort][name])
        self.assertEqual([name for name, _ in taken], list(own[0]))
        self.assertEqual([(name, type(places), len(places)) for name, places in boxes],
                         [(name, tuple, width) for name, width, _ in works[0]])
        for place in [place for _, place in taken] + [place for _, places in boxes for place in places]:
            self.assertIs(type(place), int)
            self.assertIn(place, range(len(rows)))
        return wires

    def told(self, works, wires, now, doors):
        """What a tick tells; what is handed in stays."""
        handed = copy.deepcopy((works, wires, now, doors))
        told = tick(works, wires, now, doors)
        self.assertEqual((works, wires, now, doors), handed)
        self.assertEqual([type(part) for part in (told, *told)], [tuple, list, dict])
        self.assertEqual(set(told[1]), {box[0] for box in works[0]})
        return told

    def by_rows(self, works, wires, now, doors):
        """The same as a tick, told from the rows themselves."""
        ins = {}
        for sort, widths, words in zip(("box", "door"), widths_of(works), (now, doors)):
            for name, width in widths.items():
                ins.update({(sort, name, place): bit for place, bit in enumerate(bits_of(width, words[name]))})
        bits = settle(wires[0], ins)
        behind = {name: word_of([bits[place] for place in places]) for name, places in wires[2]}
        return [name for name, place in wires[1] if bits[place]], behind

    def ticks(self, works, order, doors, **words):
        """What a tick tells by the plan of an order."""
        wires = self.is_wired(works, plan(works, list(order)))
        now = dict(first_words(works), **words)
        told = self.told(works, wires, now, doors)
        self.assertEqual(self.by_rows(works, wires, now, doors), told)
        return told


class FormTest(WireCase):
    def test_an_ordinary_works(self):
        for order in itertools.permutations(names_of(LINE)):
            wires = self.is_wired(LINE, plan(LINE, list(order)))
            self.assertEqual([name for name, _ in wires[1]], list(order))
            self.assertEqual([name for name, _ in wires[2]], ["a", "b", "c", "f"])

    def test_nothing_at_all(self):
        wires = self.is_wired(NONE, own_plan(NONE))
        self.assertEqual(wires, ((("no",), ("yes",)), (), ()))
        self.assertEqual(self.told(NONE, wires, {}, {}), ([], {}))

    def test_no_rules(self):
        works = made(BOXES, DOORS, [])
        wires = self.is_wired(works, own_plan(works))
        self.assertEqual(wires[1], ())
        now = {"a": 9, "b": 15, "c": 0, "f": 1}
        self.assertEqual(self.told(works, wires, now, {"go": 1, "by": 7}), ([], now))

    def test_no_boxes(self):
        works = made([], DOORS, [("a", ("door", "go"), []), ("b", ("same", ("door", "by"), ("num", 4, 5)), [])])
        wires = self.is_wired(works, plan(works, ["b", "a"]))
        self.assertEqual(wires[2], ())
        self.assertEqual(self.told(works, wires, {}, {"go": 1, "by": 5}), (["b", "a"], {}))
        self.assertEqual(self.told(works, wires, {}, {"go": 1, "by": 4}), (["a"], {}))
        self.assertEqual(self.told(works, wires, {}, {"go": 0, "by": 4}), ([], {}))

    def test_no_doors(self):
        works = made([("n", 3, 6)], [], [("up", YES, [("n", ("plus", ("box", "n"), ("num", 3, 1)))])])
        wires = self.is_wired(works, own_plan(works))
        self.assertEqual({bit[0] for bit in ins_of(wires[0])}, {"box"})
        for word in range(8):
            self.assertEqual(self.told(works, wires, {"n": word}, {}), (["up"], {"n": (word + 1) % 8}))

    def test_rules_without_writes(self):
        works = made(BOXES, DOORS, [("rest", ("door", "go"), []), ("wait", ("box", "f"), [])])
        for go, full in itertools.product([0, 1], repeat=2):
            told = self.ticks(works, ["wait", "rest"], {"go": go, "by": 0}, f=full)
            self.assertEqual(told, (full * ["wait"] + go * ["rest"], dict(first_words(works), f=full)))

    def test_guards_that_read_nothing(self):
        works = made(BOXES, DOORS, [("ever", YES, [("a", ("num", 4, 9))]), ("never", NO, [("b", ("num", 4, 9))])])
        told = self.ticks(works, ["ever", "never"], {"go": 0, "by": 0})
        self.assertEqual(told, (["ever"], dict(first_words(works), a=9)))

    def test_a_box_that_no_rule_writes(self):
        wires = self.is_wired(LINE, plan(LINE, ["up", "fill", "show"]))
        for word in range(16):
            now = dict(first_words(LINE), c=word)
            self.assertEqual(self.told(LINE, wires, now, {"go": 1, "by": 9})[1]["c"], word)

    def test_wide_boxes(self):
        top = 2 ** 64 - 1
        works = made([("w", 64, top), ("v", 63, 1)], [("x", 64)], [
            ("add", YES, [("w", ("plus", ("late", "w"), ("door", "x"))), ("v", ("part", ("door", "x"), 1, 63))]),
        ])
        for word, door in itertools.product([0, 1, top, top - 1, 2 ** 63], repeat=2):
            told = self.ticks(works, ["add"], {"x": door}, w=word)
            self.assertEqual(told, (["add"], {"w": (word + door) % 2 ** 64, "v": door >> 1}))

    def test_the_largest_works_let_by(self):
        letters = "abcdefghijkl"
        works = made([(letter, 64, 0) for letter in letters], [("d" + letter, 64) for letter in letters[:6]], [
            ("r" + letter, ("part", ("door", "da"), place, 1), [
                (box, ("plus", ("late", box), ("door", "db"))) for box in letters[place // 2:place // 2 + 6]
            ]) for place, letter in enumerate(letters[:8])
        ])
        wires = self.is_wired(works, own_plan(works))
        chance = random.Random(26)
        for flags in [0, 255, 1, 128, 90, 165]:
            now, doors = [drawn_words(chance, widths) for widths in widths_of(works)]
            doors["da"] = flags
            taken, behind = self.told(works, wires, now, doors)
            self.assertEqual(len(taken), bin(flags).count("1"))
            self.assertEqual((taken, behind), beat(works, own_plan(works), now, doors)[::2])


class TickTest(WireCase):
    def test_what_a_rule_ahead_puts_is_read_late(self):
        works = made(BOXES, DOORS, [PUT, GET])
        doors = {"go": 1, "by": 9}
        self.assertEqual(self.ticks(works, ["put", "get"], doors), (["put", "get"], {"a": 9, "b": 9, "c": 3, "f": 0}))
        self.assertEqual(self.ticks(works, ["get", "put"], doors), (["get", "put"], {"a": 9, "b": 1, "c": 3, "f": 0}))
        doors = {"go": 0, "by": 9}
        self.assertEqual(self.ticks(works, ["put", "get"], doors), (["get"], {"a": 1, "b": 1, "c": 3, "f": 0}))

    def test_names_in_the_order_of_the_plan(self):
        doors = {"go": 1, "by": 9}
        self.assertEqual(self.ticks(LINE, ["fill", "show", "up"], doors),
                         (["fill", "show"], {"a": 9, "b": 9, "c": 3, "f": 0}))
        self.assertEqual(self.ticks(LINE, ["show", "up", "fill"], doors, f=1),
                         (["show", "fill"], {"a": 9, "b": 1, "c": 3, "f": 1}))
        # Settled ahead of "up" and told behind it.
        self.assertEqual(self.ticks(LINE, ["up", "show", "fill"], {"go": 0, "by": 0}, f=1),
                         (["up", "show"], {"a": 2, "b": 2, "c": 3, "f": 0}))

    def test_a_more_urgent_rule_that_clashes(self):
        first = ("first", ("door", "go"), [("a", ("plus", ("box", "a"), ("num", 4, 1)))])
        second = ("second", ("box", "f"), [("a", ("plus", ("box", "a"), ("num", 4, 2)))])
        works = made(BOXES, DOORS, [first, second])
        for order in [["first", "second"], ["second", "first"]]:
            for go, full in itertools.product([0, 1], repeat=2):
                told = self.ticks(works, order, {"go": go, "by": 0}, f=full)
                taken = ["first"] if go else ["second"] if full else []
                self.assertEqual(told, (taken, {"a": 2 if go else 1 + 2 * full, "b": 2, "c": 3, "f": full}))

    def test_a_rule_that_is_left_stops_none(self):
        works = made([("m", 2, 0), ("n", 2, 0), ("p", 2, 0)], [("ga", 1), ("gb", 1), ("gc", 1)], [
            ("a", ("door", "ga"), [("m", ("num", 2, 1))]),
            ("b", ("door", "gb"), [("n", ("plus", ("box", "m"), ("num", 2, 1)))]),
            ("c", ("door", "gc"), [("p", ("plus", ("box", "n"), ("num", 2, 1)))]),
        ])
        told = self.ticks(works, "abc", {"ga": 1, "gb": 1, "gc": 1})
        self.assertEqual(told, (["a", "c"], {"m": 1, "n": 0, "p": 1}))
        self.assertEqual(self.ticks(works, "abc", {"ga": 0, "gb": 1, "gc": 1}), (["b"], {"m": 0, "n": 1, "p": 0}))
        self.assertEqual(self.ticks(works, "cba", {"ga": 1, "gb": 1, "gc": 1}),
                         (["c", "b", "a"], {"m": 1, "n": 1, "p": 1}))

    def test_a_box_that_several_rules_write(self):
        rules = [("x", ("door", "go"), [("a", ("num", 4, 7)), ("b", ("num", 4, 7))]),
                 ("y", ("box", "f"), [("a", ("num", 4, 8))]), ("z", YES, [("c", ("late", "a"))])]
        works = made(BOXES, DOORS, rules)
        for order in itertools.permutations("xyz"):
            for go, full in itertools.product([0, 1], repeat=2):
                taken = [name for name in order if name == "z" or (go if name == "x" else full)]
                puts = [1] + [{"x": 7, "y": 8}[name] for name in taken if name != "z"]
                seen = [1] + [{"x": 7, "y": 8}[name] for name in taken[:taken.index("z")]]
                told = self.ticks(works, order, {"go": go, "by": 0}, f=full)
                self.assertEqual(told, (taken, {"a": puts[-1], "b": 7 if go else 2, "c": seen[-1], "f": full}))

    def test_a_rule_does_not_see_its_own_words(self):
        works = made(BOXES, DOORS, [("swap", YES, [("a", ("late", "b")), ("b", ("box", "a")), ("c", ("late", "a"))])])
        self.assertEqual(self.ticks(works, ["swap"], {"go": 0, "by": 0}), (["swap"], {"a": 2, "b": 1, "c": 1, "f": 0}))

    def test_a_settling_that_is_unlike_the_order(self):
        # The wires go by the order, though the rules are laid as they settle.
        works = made(BOXES, DOORS, [
            ("last", YES, [("a", ("num", 4, 15))]), ("see", YES, [("b", ("late", "c"))]),
            ("put", YES, [("c", ("num", 4, 12))]),
        ])
        own = plan(works, ["put", "see", "last"])
        self.assertEqual(own[1], ("last", "put", "see"))
        told = self.ticks(works, own[0], {"go": 0, "by": 0})
        self.assertEqual(told, (["put", "see", "last"], {"a": 15, "b": 12, "c": 12, "f": 0}))

    def test_the_wires_of_unlike_plans(self):
        works = made(BOXES, DOORS, [PUT, GET])
        forth, back = [wired(works, plan(works, order)) for order in (["put", "get"], ["get", "put"])]
        now, doors = first_words(works), {"go": 1, "by": 9}
        for _ in range(2):
            self.assertEqual(self.told(works, forth, now, doors)[1]["b"], 9)
            self.assertEqual(self.told(works, back, now, doors)[1]["b"], 1)

    def test_what_is_told_is_the_askers_own(self):
        own = plan(LINE, ["up", "fill", "show"])
        wires = wired(LINE, own)
        now, doors = first_words(LINE), {"go": 1, "by": 9}
        asked = copy.deepcopy(tick(LINE, wires, now, doors))
        for _ in range(2):
            told = tick(LINE, wires, now, doors)
            self.assertEqual(told, asked)
            told[0].clear()
            told[1].clear()
        told = tick(LINE, wires, now, {"go": 0, "by": 0})
        told[1]["a"] = 7
        self.assertEqual(now, first_words(LINE))
        self.assertEqual(wired(LINE, own), wires)

    def test_nothing_is_kept_from_an_earlier_tick(self):
        wires = wired(LINE, own_plan(LINE))
        now, doors = first_words(LINE), {"go": 1, "by": 9}
        told = tick(LINE, wires, now, doors)
        asked = copy.deepcopy(told)
        now["a"] = 4
        doors["go"] = 0
        self.assertEqual(told, asked)
        self.assertEqual(tick(LINE, wires, now, doors), ([], {"a": 4, "b": 2, "c": 3, "f": 0}))


class DrawnTest(WireCase):
    def test_from_any_state_as_the_beat_machine(self):
        chance = random.Random(26)
        seen = {"left": 0, "more": 0, "none": 0}
        for _ in range(60):
            works = drawn_works(chance, chance.randrange(0, 9), deep=4)
            for own in (own_plan(works), plan(works, names_of(works))):
                wires = self.is_wired(works, own)
                for _ in range(6):
                    now, doors = [drawn_words(chance, widths) for widths in widths_of(works)]
                    taken, left, behind = beat(works, own, now, doors)
                    self.assertEqual(self.told(works, wires, now, doors), (taken, behind))
                    self.assertEqual(self.by_rows(works, wires, now, doors), (taken, behind))
                    seen["left"] += len(left) > 0
                    seen["more"] += len(taken) > 1
                    seen["none"] += len(taken) == 0
        self.assertGreater(min(seen.values()), 30)


if __name__ == "__main__":
    unittest.main()
