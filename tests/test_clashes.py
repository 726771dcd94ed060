"""Point 16: what rules write and read, and whether one behind another one is a clash."""

import random
import unittest

from beatwright.clashes import clash, read_early, read_late, written
from beatwright.errors import BeatError, Unknown
from beatwright.papers import never_both
from beatwright.terms import reads
from beatwright.works import made, rule_of
from tests.samples import NO, YES, drawn_works, names_of

WORKS = made(
    [("f", 1, 0), ("e", 1, 0), ("d", 4, 0), ("c", 4, 0), ("b", 4, 0), ("a", 4, 0)],
    [("go", 1), ("by", 4)],
    [
        ("rest", YES, []),
        ("guard", ("and", ("box", "f"), ("or", ("late", "e"), ("door", "go"))), []),
        ("alone", ("and", ("box", "f"), ("late", "e")), [("c", ("num", 4, 1)), ("a", ("num", 4, 2))]),
        ("terms", YES, [("d", ("plus", ("box", "b"), ("door", "by"))), ("b", ("xor", ("late", "d"), ("late", "a")))]),
        ("doors", ("door", "go"), [("a", ("door", "by"))]),
        (
            "all",
            ("and", ("box", "f"), ("less", ("box", "c"), ("late", "c"))),
            [
                ("f", ("and", ("late", "f"), ("not", ("late", "f")))),
                ("c", ("pick", ("box", "f"), ("box", "d"), ("box", "b"))),
                ("b", ("plus", ("plus", ("late", "c"), ("box", "c")), ("late", "b"))),
                ("e", ("same", ("box", "b"), ("late", "b"))),
            ],
        ),
    ],
)

# For each rule what it writes, reads early and reads late.
ASKED = {
    "rest": ([], [], []),
    "guard": ([], ["f"], ["e"]),
    "alone": (["a", "c"], ["f"], ["e"]),
    "terms": (["b", "d"], ["b"], ["a", "d"]),
    "doors": (["a"], [], []),
    "all": (["b", "c", "e", "f"], ["b", "c", "d", "f"], ["b", "c", "f"]),
}
OTHERS = ["", "a", "f", "go", "by", "res", "restt", "REST", "rest ", "rest\n", "nobody", "?"]
TELLERS = (written, read_early, read_late)


class NamesTest(unittest.TestCase):
    def test_each_rule(self):
        for name, asked in ASKED.items():
            with self.subTest(rule=name):
                self.assertEqual(tuple(tell(WORKS, name) for tell in TELLERS), asked)
                self.assertEqual([type(tell(WORKS, name)) for tell in TELLERS], [list] * 3)

    def test_unknown(self):
        for tell in TELLERS:
            for name in OTHERS:
                with self.subTest(tell=tell.__name__, name=name):
                    with self.assertRaises(BeatError) as caught:
                        tell(WORKS, name)
                    self.assertIs(type(caught.exception), Unknown)
            with self.assertRaises(Unknown):
                tell(made([], [], []), "rest")

    def test_the_lists_are_the_askers_own(self):
        for place, tell in enumerate(TELLERS):
            for name, asked in ASKED.items():
                told = tell(WORKS, name)
                told.append("zz")
                told.reverse()
                self.assertEqual(tell(WORKS, name), asked[place])

    def test_drawn_rules(self):
        chance = random.Random(16)
        for _ in range(60):
            works = drawn_works(chance, 3)
            for name, guard, writes in works[2]:
                lists = [reads(term) for term in [guard] + [term for _, term in writes]]
                self.assertEqual(written(works, name), sorted({box for box, _ in writes}))
                self.assertEqual(read_early(works, name), sorted({box for told in lists for box in told[0]}))
                self.assertEqual(read_late(works, name), sorted({box for told in lists for box in told[1]}))


def two_rules(one, other, boxes=(("a", 4, 0), ("b", 4, 0), ("c", 4, 0), ("f", 1, 0), ("p", 64, 0), ("q", 64, 0))):
    """A works of two rules, "one" and "other", each told by its guard and its writes."""
    return made(list(boxes), [("go", 1), ("by", 4)], [("one", *one), ("other", *other)])


class ClashTest(unittest.TestCase):
    def test_behind_reads_no_box_that_ahead_writes(self):
        writes = [("a", ("num", 4, 1)), ("c", ("num", 4, 1))]
        for other in [
            (YES, []),
            (YES, [("a", ("num", 4, 2))]),
            (YES, [("c", ("box", "b"))]),
            (("box", "f"), [("a", ("door", "by"))]),
            (("door", "go"), [("b", ("box", "b"))]),
        ]:
            self.assertIsNone(clash(two_rules((YES, writes), other), "one", "other"))

    def test_behind_reads_it_late_alone(self):
        for other in [
            (YES, [("b", ("late", "a"))]),
            (("same", ("late", "a"), ("late", "c")), []),
            (("box", "f"), [("f", ("less", ("late", "a"), ("box", "b")))]),
        ]:
            works = two_rules((YES, [("a", ("num", 4, 1)), ("c", ("num", 4, 1))]), other)
            self.assertIsNone(clash(works, "one", "other"))

    def test_ahead_writes_none(self):
        works = two_rules((("box", "f"), []), (("box", "f"), [("f", ("box", "f"))]))
        self.assertIsNone(clash(works, "one", "other"))
        self.assertEqual(clash(works, "other", "one"), ("f", ("both", {"f": 1}, {}, {}, {})))

    def test_it_is_read_by_the_guard_or_by_a_term(self):
        asked = ("a", ("both", {"a": 1}, {}, {}, {}))
        works = two_rules((YES, [("a", ("num", 4, 3))]), (("part", ("box", "a"), 0, 1), []))
        self.assertEqual(clash(works, "one", "other"), asked)
        works = two_rules((YES, [("a", ("num", 4, 3))]), (YES, [("c", ("num", 4, 0)), ("b", ("box", "a"))]))
        self.assertEqual(clash(works, "one", "other"), ("a", ("both", {}, {}, {}, {})))

    def test_never(self):
        guard = ("less", ("box", "a"), ("num", 4, 6))
        works = two_rules((guard, [("a", ("num", 4, 6))]), (("not", guard), [("a", ("box", "a"))]))
        self.assertEqual(never_both(works, "one", "other")[0], "never")
        self.assertIsNone(clash(works, "one", "other"))
        self.assertIsNone(clash(works, "other", "one"))

    def test_a_guard_that_is_never_1(self):
        works = two_rules((NO, [("a", ("num", 4, 6))]), (YES, [("a", ("box", "a"))]))
        self.assertIsNone(clash(works, "one", "other"))

    def test_what_is_read_late_is_told_apart(self):
        guard = ("late", "f")
        works = two_rules((guard, [("a", ("num", 4, 6))]), (("not", guard), [("b", ("box", "a"))]))
        self.assertEqual(clash(works, "one", "other"), ("a", ("both", {}, {}, {"f": 1}, {"f": 0})))

    def test_the_first_box_by_name(self):
        term = ("plus", ("plus", ("box", "c"), ("box", "b")), ("box", "a"))
        one = (("door", "go"), [("c", ("num", 4, 1)), ("p", ("box", "p")), ("b", ("num", 4, 1))])
        works = two_rules(one, (("box", "f"), [("c", term), ("p", ("box", "p"))]))
        self.assertEqual(clash(works, "one", "other"), ("b", ("both", {"f": 1}, {"go": 1}, {}, {})))
        self.assertEqual(clash(works, "other", "one"), ("p", ("both", {"f": 1}, {"go": 1}, {}, {})))

    def test_the_answer_with_all_its_words(self):
        one = (("and", ("late", "f"), ("door", "go")), [("a", ("num", 4, 1)), ("f", ("num", 1, 0))])
        writes = [("a", ("plus", ("box", "a"), ("door", "by"))), ("b", ("box", "b"))]
        other = (("same", ("late", "a"), ("num", 4, 9)), writes)
        works = two_rules(one, other)
        told = clash(works, "one", "other")
        self.assertIs(type(told), tuple)
        self.assertEqual(told, ("a", ("both", {}, {"go": 1}, {"f": 1}, {"a": 9})))
        self.assertIsNone(clash(works, "other", "one"))

    def test_unsure(self):
        one = (("less", ("box", "p"), ("box", "q")), [("p", ("box", "q"))])
        other = (("less", ("box", "q"), ("box", "p")), [("q", ("box", "p"))])
        works = two_rules(one, other)
        self.assertEqual(clash(works, "one", "other"), ("p", ("unsure",)))
        self.assertEqual(clash(works, "other", "one"), ("q", ("unsure",)))

    def test_both_ways_round_tell_unlike_answers(self):
        one = (("same", ("late", "p"), ("num", 64, 2 ** 64 - 1)), [("a", ("box", "a"))])
        other = (("and", ("late", "f"), ("not", ("late", "f"))), [("a", ("box", "a"))])
        works = two_rules(one, other)
        self.assertEqual(clash(works, "one", "other"), ("a", ("unsure",)))
        self.assertIsNone(clash(works, "other", "one"))
        one = (("less", ("late", "b"), ("num", 4, 3)), [("a", ("box", "a"))])
        other = (("late", "f"), [("a", ("box", "a"))])
        works = two_rules(one, other)
        self.assertEqual(clash(works, "one", "other"), ("a", ("both", {}, {}, {"b": 0}, {"f": 1})))
        self.assertEqual(clash(works, "other", "one"), ("a", ("both", {}, {}, {"f": 1}, {"b": 0})))

    def test_the_dicts_are_the_askers_own(self):
        works = two_rules((("door", "go"), [("f", YES)]), (("box", "f"), []))
        asked = ("f", ("both", {"f": 1}, {"go": 1}, {}, {}))
        for _ in range(2):
            told = clash(works, "one", "other")
            self.assertEqual(told, asked)
            for words in told[1][1:]:
                words.clear()
                words["zz"] = 3

    def test_drawn_rules(self):
        chance = random.Random(17)
        seen = {"none": 0, "never": 0, "both": 0}
        for _ in range(60):
            works = drawn_works(chance, 3)
            for ahead in names_of(works):
                for behind in names_of(works):
                    if ahead == behind:
                        continue
                    boxes = [box for box, _ in rule_of(works, ahead)[2] if box in read_early(works, behind)]
                    answer = never_both(works, ahead, behind)
                    none = not boxes or answer[0] == "never"
                    self.assertEqual(clash(works, ahead, behind), None if none else (min(boxes), answer))
                    seen["none" if not boxes else answer[0]] += 1
        self.assertGreater(min(seen.values()), 10)


if __name__ == "__main__":
    unittest.main()
