"""Points 2 and 9: names, and what is told of a works that is let by."""

import copy
import unittest

from beatwright.errors import NoName, Unknown
from beatwright.works import first_words, made, rule_of, widths_of
from tests.samples import LETTERS, YES, nested, tree

BOXES = [("sum", 4, 9), ("flag", 1, 1), ("wide", 64, 2 ** 64 - 1)]
DOORS = [("go", 1), ("step", 4)]
RULES = [
    ("swap", ("door", "go"), [("flag", ("not", ("late", "flag"))), ("sum", ("door", "step"))]),
    ("rest", YES, []),
    ("grow", ("box", "flag"), [("sum", ("plus", ("box", "sum"), ("door", "step")))]),
]
TOLD = (
    (("sum", 4, 9), ("flag", 1, 1), ("wide", 64, 2 ** 64 - 1)),
    (("go", 1), ("step", 4)),
    (
        ("swap", ("door", "go"), (("flag", ("not", ("late", "flag"))), ("sum", ("door", "step")))),
        ("rest", YES, ()),
        ("grow", ("box", "flag"), (("sum", ("plus", ("box", "sum"), ("door", "step"))),)),
    ),
)


def largest():
    """As many boxes, doors, rules and writes as are let by."""
    boxes = [(letter, 64, 2 ** 64 - 1) for letter in LETTERS[:12]]
    doors = [("door" + letter, 1) for letter in LETTERS[:6]]
    writes = [(letter, ("not", ("box", letter))) for letter in LETTERS[:6]]
    rules = [("rule" + letter, YES, list(writes)) for letter in LETTERS[:8]]
    return boxes, doors, rules


class NamesTest(unittest.TestCase):
    def let_by(self, text):
        """Whether a text is a name: of a box, a door and a rule alike."""
        told = []
        for handed in [([(text, 1, 0)], [], []), ([], [(text, 1)], []), ([], [], [(text, YES, [])])]:
            try:
                made(*handed)
                told.append(True)
            except NoName:
                told.append(False)
        self.assertEqual(len(set(told)), 1, text)
        return told[0]

    def test_each_letter_at_each_place(self):
        for letter in LETTERS:
            self.assertTrue(self.let_by(letter))
            for place in range(8):
                self.assertTrue(self.let_by("m" * place + letter + "m" * (7 - place)))

    def test_one_to_eight_letters(self):
        for many in range(1, 9):
            self.assertTrue(self.let_by(LETTERS[:many]))
        for many in [0, 9, 10, 26]:
            self.assertFalse(self.let_by(LETTERS[:many]))

    def test_other_signs_at_any_place(self):
        others = [chr(code) for code in range(32, 127) if chr(code) not in LETTERS] + ["\n"]
        self.assertEqual(len(others), 95 - 26 + 1)
        for sign in others:
            self.assertFalse(self.let_by(sign))
            for many in [2, 8]:
                for place in range(many):
                    self.assertFalse(self.let_by("m" * place + sign + "m" * (many - 1 - place)), sign)

    def test_texts_that_look_like_names(self):
        for text in ["", " ", "\n", "A", "aB", "a1", "1", "a b", "a\n", "\na", " a", "a ", "a_b", "abcdefghi", "a" * 9]:
            self.assertFalse(self.let_by(text))

    def test_words_of_forms_are_names_too(self):
        for text in ["num", "box", "late", "door", "rule", "set", "not", "order"]:
            self.assertTrue(self.let_by(text))


class MadeTest(unittest.TestCase):
    def test_none_at_all(self):
        self.assertEqual(made([], [], []), ((), (), ()))

    def test_an_ordinary_works(self):
        self.assertEqual(made(BOXES, DOORS, RULES), TOLD)

    def test_all_is_tuples(self):
        def only_tuples(value):
            if isinstance(value, (int, str)):
                return True
            return isinstance(value, tuple) and all(only_tuples(inner) for inner in value)

        self.assertTrue(only_tuples(made(BOXES, DOORS, RULES)))
        self.assertTrue(only_tuples(made(*largest())))

    def test_as_many_as_are_let_by(self):
        boxes, doors, rules = largest()
        works = made(boxes, doors, rules)
        self.assertEqual([len(part) for part in works], [12, 6, 8])
        self.assertEqual(works[0], tuple(boxes))
        self.assertEqual(works[1], tuple(doors))
        self.assertEqual(works[2], tuple((name, guard, tuple(writes)) for name, guard, writes in rules))
        self.assertEqual(len(works[2][7][2]), 6)

    def test_only_some_of_the_three(self):
        self.assertEqual(made(BOXES, [], []), (TOLD[0], (), ()))
        self.assertEqual(made([], DOORS, []), ((), TOLD[1], ()))
        self.assertEqual(made([], [], [("rest", YES, [])]), ((), (), (("rest", YES, ()),)))

    def test_the_order_handed_in_stays(self):
        works = made(BOXES[::-1], DOORS[::-1], RULES[::-1])
        self.assertEqual(works, (TOLD[0][::-1], TOLD[1][::-1], TOLD[2][::-1]))

    def test_the_largest_terms_let_by(self):
        for term in [nested(12), tree(100)]:
            rule = ("r", term, [("b", term)])
            self.assertEqual(made([("b", 1, 0)], [], [rule])[2], (("r", term, (("b", term),)),))

    def test_what_is_handed_in_stays(self):
        handed = copy.deepcopy((BOXES, DOORS, RULES))
        before = copy.deepcopy(handed)
        made(*handed)
        self.assertEqual(handed, before)

    def test_what_is_handed_in_stays_where_it_is_refused(self):
        handed = copy.deepcopy((BOXES, DOORS, RULES + [("late", YES, [("nobody", YES)])]))
        before = copy.deepcopy(handed)
        with self.assertRaises(Unknown):
            made(*handed)
        self.assertEqual(handed, before)

    def test_nothing_handed_in_is_kept(self):
        boxes, doors, rules = copy.deepcopy((BOXES, DOORS, RULES))
        works = made(boxes, doors, rules)
        rules[0][2].append(("wide", ("box", "wide")))
        rules[1][2].append(("wide", ("box", "wide")))
        rules[2][2].clear()
        boxes.append(("more", 1, 0))
        boxes[0] = ("less", 1, 0)
        doors.clear()
        rules.pop()
        self.assertEqual(works, TOLD)

    def test_nothing_is_kept_from_an_earlier_works(self):
        for _ in range(3):
            self.assertEqual(made(BOXES, DOORS, RULES), TOLD)


class AskedTest(unittest.TestCase):
    def setUp(self):
        self.works = made(BOXES, DOORS, RULES)

    def test_rule_of_each_rule(self):
        for rule in TOLD[2]:
            self.assertEqual(rule_of(self.works, rule[0]), rule)
            self.assertIs(type(rule_of(self.works, rule[0])), tuple)

    def test_rule_of_any_other_text(self):
        for text in ["", "sum", "flag", "go", "step", "swa", "swapp", "SWAP", "swap ", " swap", "swap\n", "nobody", "?"]:
            with self.subTest(text=text):
                with self.assertRaises(Unknown):
                    rule_of(self.works, text)
        with self.assertRaises(Unknown):
            rule_of(made([], [], []), "swap")

    def test_widths(self):
        told = widths_of(self.works)
        self.assertIs(type(told), tuple)
        self.assertEqual(told, ({"sum": 4, "flag": 1, "wide": 64}, {"go": 1, "step": 4}))
        self.assertEqual(widths_of(made([], [], [])), ({}, {}))

    def test_first_words(self):
        self.assertEqual(first_words(self.works), {"sum": 9, "flag": 1, "wide": 2 ** 64 - 1})
        self.assertEqual(first_words(made([], DOORS, [])), {})

    def test_told_dicts_are_the_askers_own(self):
        for tell in [lambda: widths_of(self.works)[0], lambda: widths_of(self.works)[1], lambda: first_words(self.works)]:
            before = dict(tell())
            told = tell()
            told["zz"] = 3
            told.pop(sorted(before)[0])
            self.assertEqual(tell(), before)
            self.assertIs(type(told), dict)
        empty = widths_of(made([], [], []))
        empty[0]["zz"] = 3
        self.assertEqual(empty[1], {})

    def test_the_works_stays(self):
        rule_of(self.works, "swap")
        widths_of(self.works)[0].clear()
        first_words(self.works).clear()
        self.assertEqual(self.works, TOLD)


if __name__ == "__main__":
    unittest.main()
