"""Point 10: the plain machine."""

import copy
import unittest

from beatwright.errors import BeatError, Shut, Unknown
from beatwright.plain import can, do, do_row
from beatwright.works import first_words, made
from tests.samples import NO, YES

WORKS = made(
    [("a", 4, 3), ("b", 4, 12), ("c", 1, 0), ("w", 64, 2 ** 64 - 1)],
    [("go", 1), ("by", 4)],
    [
        ("swap", YES, [("a", ("box", "b")), ("b", ("late", "a"))]),
        ("flip", ("not", ("box", "c")), [("c", YES)]),
        ("flop", ("late", "c"), [("c", NO), ("a", ("plus", ("late", "a"), ("door", "by")))]),
        ("wrap", ("door", "go"), [("w", ("plus", ("box", "w"), ("num", 64, 1)))]),
        ("rest", YES, []),
        ("never", NO, [("a", ("num", 4, 0))]),
        ("far", ("same", ("box", "a"), ("late", "b")), [("a", ("xor", ("box", "a"), ("late", "b")))]),
        ("low", ("less", ("door", "by"), ("late", "a")), [("a", ("minus", ("late", "a"), ("num", 4, 1)))]),
    ],
)
RULES = [rule[0] for rule in WORKS[2]]
DOORS = {"go": 1, "by": 5}
NOW = {"a": 3, "b": 12, "c": 0, "w": 2 ** 64 - 1}
OTHERS = ["", "a", "c", "w", "go", "by", "SWAP", "swa", "swapp", "swap ", "swap\n", "nobody", "?"]


def changed(**words):
    return dict(NOW, **words)


class PlainCase(unittest.TestCase):
    def refused(self, error, tell, *handed):
        with self.assertRaises(BeatError) as caught:
            tell(*handed)
        self.assertIs(type(caught.exception), error)


class CanTest(PlainCase):
    def told(self, name, now, doors=DOORS):
        told = can(WORKS, name, now, doors)
        self.assertIs(type(told), bool)
        return told

    def test_guards_that_read_nothing(self):
        for name, asked in [("swap", True), ("rest", True), ("never", False)]:
            self.assertIs(self.told(name, NOW), asked)

    def test_guards_that_read_early_and_late(self):
        for word in [0, 1]:
            self.assertIs(self.told("flip", changed(c=word)), word == 0)
            self.assertIs(self.told("flop", changed(c=word)), word == 1)

    def test_guards_that_read_doors(self):
        for word in [0, 1]:
            self.assertIs(self.told("wrap", NOW, dict(DOORS, go=word)), word == 1)
        for word in range(16):
            self.assertIs(self.told("low", NOW, dict(DOORS, by=word)), word < 3)

    def test_early_and_late_are_the_same(self):
        for one in range(16):
            for other in range(16):
                self.assertIs(self.told("far", changed(a=one, b=other)), one == other)

    def test_unknown(self):
        for name in OTHERS:
            self.refused(Unknown, can, WORKS, name, NOW, DOORS)
        self.refused(Unknown, can, made([], [], []), "swap", {}, {})


class DoTest(PlainCase):
    def told(self, name, now, doors=DOORS):
        state = do(WORKS, name, now, doors)
        self.assertIs(type(state), dict)
        return state

    def test_two_boxes_exchange_their_words(self):
        self.assertEqual(self.told("swap", NOW), changed(a=12, b=3))

    def test_terms_are_told_from_the_state_as_it_was(self):
        works = made(
            [("a", 4, 1), ("b", 4, 2), ("c", 4, 3)],
            [],
            [("turn", YES, [("c", ("late", "b")), ("b", ("late", "a")), ("a", ("late", "c"))])],
        )
        self.assertEqual(do(works, "turn", first_words(works), {}), {"a": 3, "b": 1, "c": 2})

    def test_the_other_boxes_stay(self):
        self.assertEqual(self.told("flip", NOW), changed(c=1))
        self.assertEqual(self.told("wrap", NOW), changed(w=0))
        self.assertEqual(self.told("flop", changed(c=1)), changed(c=0, a=8))
        self.assertEqual(self.told("low", NOW, dict(DOORS, by=2)), changed(a=2))
        self.assertEqual(self.told("far", changed(a=9, b=9)), changed(a=0, b=9))

    def test_the_words_at_the_doors_are_read(self):
        for word in range(16):
            doors = {"go": 0, "by": word}
            self.assertEqual(self.told("flop", changed(c=1), doors), changed(c=0, a=(3 + word) % 16))

    def test_a_rule_without_writes(self):
        self.assertEqual(self.told("rest", NOW), NOW)

    def test_shut(self):
        for name, now, doors in [
            ("never", NOW, DOORS),
            ("flip", changed(c=1), DOORS),
            ("flop", NOW, DOORS),
            ("wrap", NOW, {"go": 0, "by": 5}),
            ("far", NOW, DOORS),
            ("low", NOW, {"go": 1, "by": 3}),
        ]:
            self.refused(Shut, do, WORKS, name, now, doors)

    def test_unknown(self):
        for name in OTHERS:
            self.refused(Unknown, do, WORKS, name, NOW, DOORS)

    def test_it_does_just_what_can_be_done(self):
        for name in RULES:
            for now in [NOW, changed(c=1), changed(a=12), changed(a=15, c=1)]:
                for go in [0, 1]:
                    doors = {"go": go, "by": 14}
                    if can(WORKS, name, now, doors):
                        self.assertEqual(sorted(self.told(name, now, doors)), ["a", "b", "c", "w"])
                    else:
                        self.refused(Shut, do, WORKS, name, now, doors)

    def test_what_is_handed_in_stays_and_a_new_state_is_told(self):
        for name in ["swap", "flip", "wrap", "rest"]:
            now, doors = dict(NOW), dict(DOORS)
            state = do(WORKS, name, now, doors)
            self.assertIsNot(state, now)
            before = dict(state)
            now["a"] = 0
            doors["by"] = 0
            self.assertEqual(state, before)
            state.clear()
            self.assertEqual((now, doors), (changed(a=0), dict(DOORS, by=0)))
            self.assertEqual(do(WORKS, name, NOW, DOORS), before)


class RowTest(PlainCase):
    def test_no_names(self):
        now = dict(NOW)
        state = do_row(WORKS, [], now, DOORS)
        self.assertEqual(state, NOW)
        self.assertIs(type(state), dict)
        state["a"] = 0
        self.assertEqual(now, NOW)
        self.assertEqual(do_row(made([], [], []), [], {}, {}), {})

    def test_one_name(self):
        for name in ["swap", "flip", "wrap", "rest"]:
            self.assertEqual(do_row(WORKS, [name], NOW, DOORS), do(WORKS, name, NOW, DOORS))

    def test_one_behind_the_other(self):
        self.assertEqual(do_row(WORKS, ["swap", "swap"], NOW, DOORS), NOW)
        self.assertEqual(do_row(WORKS, ["flip", "flop"], NOW, DOORS), changed(a=8))
        self.assertEqual(do_row(WORKS, ["flip", "flop", "flip", "flop"], NOW, DOORS), changed(a=13))
        self.assertEqual(do_row(WORKS, ["flip", "flop", "swap"], NOW, DOORS), changed(a=12, b=8))
        self.assertEqual(do_row(WORKS, ["flip", "swap", "flop"], NOW, DOORS), changed(a=1, b=3))
        self.assertEqual(do_row(WORKS, ["wrap", "wrap", "rest"], NOW, DOORS), changed(w=1))

    def test_a_guard_is_asked_when_its_turn_comes(self):
        self.assertFalse(can(WORKS, "flop", NOW, DOORS))
        self.assertEqual(do_row(WORKS, ["flip", "flop"], NOW, DOORS)["c"], 0)
        self.assertTrue(can(WORKS, "flip", NOW, DOORS))
        self.refused(Shut, do_row, WORKS, ["flip", "flip"], NOW, DOORS)

    def test_the_first_refusal_in_whatever_place(self):
        for ahead in [[], ["swap"], ["swap", "flip"], ["swap", "flip", "flop", "rest"]]:
            for behind in [[], ["rest"], ["rest", "swap"]]:
                self.refused(Shut, do_row, WORKS, ahead + ["never"] + behind, NOW, DOORS)
                self.refused(Shut, do_row, WORKS, ahead + ["never"] + behind + ["nobody"], NOW, DOORS)
                for name in OTHERS:
                    self.refused(Unknown, do_row, WORKS, ahead + [name] + behind, NOW, DOORS)
                    self.refused(Unknown, do_row, WORKS, ahead + [name] + behind + ["never"], NOW, DOORS)

    def test_what_is_handed_in_stays(self):
        for names in [["swap", "flip", "flop"], ["swap", "flip", "never"], ["wrap", "nobody"], []]:
            handed = [list(names), dict(NOW), dict(DOORS)]
            before = copy.deepcopy(handed)
            try:
                do_row(WORKS, *handed)
            except BeatError:
                pass
            self.assertEqual(handed, before)


if __name__ == "__main__":
    unittest.main()
