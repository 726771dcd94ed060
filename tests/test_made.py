"""Point 9: what is refused as a works is made, with its class, at its edge and beyond, and which goes ahead."""

import itertools
import unittest

from beatwright.errors import BeatError, NoName, NoWidth, NoWord, TooMany, Twice, Unknown, Unlike
from beatwright.works import made
from tests.samples import FAULTS, LETTERS, YES, nested, tree

# The terms of point 7 that are refused, each with its class.
BAD_TERMS = [
    (FAULTS["Unknown"], Unknown),
    (("late", "nobody"), Unknown),
    (("door", "nobody"), Unknown),
    (("box", "go"), Unknown),
    (("late", "go"), Unknown),
    (("door", "a"), Unknown),
    (("box", "self"), Unknown),
    (FAULTS["NoWidth"], NoWidth),
    (("num", 65, 0), NoWidth),
    (("join", ("num", 64, 0), ("num", 1, 0)), NoWidth),
    (("part", ("box", "a"), 0, 2), NoWidth),
    (("part", ("box", "a"), -1, 1), NoWidth),
    (("part", ("box", "a"), 0, 0), NoWidth),
    (FAULTS["NoWord"], NoWord),
    (("num", 1, -1), NoWord),
    (FAULTS["Unlike"], Unlike),
    (("pick", ("num", 2, 0), YES, YES), Unlike),
    (("same", ("box", "a"), ("box", "b")), Unlike),
    (nested(13), TooMany),
    (tree(101), TooMany),
    (("and", ("box", "nobody"), nested(12)), TooMany),
]

A, B = ("a", 1, 0), ("b", 2, 3)
GO = ("go", 1)

# For each part of a works what is refused in it, behind the boxes a and b, the door go and the rule old.
BAD_BOXES = [(("", 1, 0), NoName), (("a", 1, 0), Twice), (("c", 0, 0), NoWidth), (("c", 1, 2), NoWord)]
BAD_DOORS = [(("X", 1), NoName), (("a", 1), Twice), (("go", 1), Twice), (("d", 65), NoWidth)]
BAD_WRITES = [
    (("nobody", YES), Unknown),
    (("go", YES), Unknown),
    (("self", YES), Unknown),
    (("a", FAULTS["NoWidth"]), NoWidth),
    (("a", FAULTS["NoWord"]), NoWord),
    (("a", ("num", 2, 0)), Unlike),
    (("a", nested(13)), TooMany),
]
BAD_RULES = [
    (("a rule", YES, []), NoName),
    (("a", YES, []), Twice),
    (("go", YES, []), Twice),
    (("old", YES, []), Twice),
    (("self", FAULTS["NoWord"], []), NoWord),
    (("self", ("num", 2, 0), []), Unlike),
    (("self", YES, [("a", YES)] * 7), TooMany),
] + [(("self", YES, [write]), error) for write, error in BAD_WRITES]


class MadeCase(unittest.TestCase):
    def refused(self, error, boxes, doors=(), rules=()):
        with self.subTest(boxes=boxes, doors=doors, rules=rules):
            with self.assertRaises(BeatError) as caught:
                made(list(boxes), list(doors), list(rules))
            self.assertIs(type(caught.exception), error)

    def rule_refused(self, error, guard=YES, writes=(), name="self"):
        self.refused(error, [A, B], [GO], [("old", YES, []), (name, guard, list(writes))])

    def let_by(self, boxes, doors=(), rules=()):
        self.assertEqual(len(made(list(boxes), list(doors), list(rules))), 3)


class CountsTest(MadeCase):
    def test_boxes(self):
        for many in [0, 1, 11, 12]:
            self.let_by([(letter, 1, 0) for letter in LETTERS[:many]])
        for many in [13, 14, 26]:
            self.refused(TooMany, [(letter, 1, 0) for letter in LETTERS[:many]])

    def test_doors(self):
        for many in [0, 1, 5, 6]:
            self.let_by([], [(letter, 1) for letter in LETTERS[:many]])
        for many in [7, 8, 26]:
            self.refused(TooMany, [], [(letter, 1) for letter in LETTERS[:many]])

    def test_rules(self):
        for many in [0, 1, 7, 8]:
            self.let_by([], [], [(letter, YES, []) for letter in LETTERS[:many]])
        for many in [9, 10, 26]:
            self.refused(TooMany, [], [], [(letter, YES, []) for letter in LETTERS[:many]])

    def test_they_go_ahead_of_every_other_fault(self):
        many_boxes = [(letter, 1, 0) for letter in LETTERS[:13]]
        many_doors = [(letter * 2, 1) for letter in LETTERS[:7]]
        many_rules = [(letter * 3, YES, []) for letter in LETTERS[:9]]
        for box, _ in BAD_BOXES:
            self.refused(TooMany, [box] + many_boxes)
            self.refused(TooMany, [box], many_doors)
            self.refused(TooMany, [box], [], many_rules)
        for door, _ in BAD_DOORS:
            self.refused(TooMany, many_boxes, [door])
            self.refused(TooMany, [A], [GO, door] + many_doors)
            self.refused(TooMany, [A], [GO, door], many_rules)
        for rule, _ in BAD_RULES:
            self.refused(TooMany, many_boxes, [], [rule])
            self.refused(TooMany, [], many_doors, [rule])
            self.refused(TooMany, [A, B], [GO], [rule] + many_rules)


class BoxesTest(MadeCase):
    def test_names(self):
        for text in ["", "abcdefghi", "Abc", "a1", "a b", "a\n"]:
            self.refused(NoName, [(text, 1, 0)])
            self.refused(NoName, [A, (text, 1, 0), B])

    def test_one_name_twice(self):
        self.refused(Twice, [A, A])
        self.refused(Twice, [A, B, ("a", 5, 7)])
        self.refused(Twice, [B, A, ("b", 1, 0)])

    def test_widths(self):
        for width in range(1, 65):
            self.let_by([("a", width, 0)])
        for width in [0, 65, -1, 66, 10 ** 299, -(10 ** 299)]:
            self.refused(NoWidth, [("a", width, 0)])
            self.refused(NoWidth, [B, ("a", width, 0)])

    def test_first_words(self):
        for width in [1, 2, 7, 63, 64]:
            for word in [0, 1, 2 ** width - 1]:
                self.let_by([("a", width, word)])
            for word in [-1, 2 ** width, 2 ** width + 1, 10 ** 299, -(10 ** 299)]:
                self.refused(NoWord, [("a", width, word)])

    def test_the_order_within_a_box(self):
        self.refused(NoName, [("A", 0, -1)])
        self.refused(NoName, [("", 1, 0), ("", 1, 0)])
        self.refused(Twice, [A, ("a", 0, -1)])
        self.refused(NoWidth, [("a", 0, -1)])
        self.refused(NoWidth, [("a", 65, 2 ** 65)])

    def test_box_by_box(self):
        for (one, error), (other, _) in itertools.permutations(BAD_BOXES, 2):
            if one[0] != other[0]:
                self.refused(error, [A, B, one, other])

    def test_boxes_ahead_of_doors_and_rules(self):
        for box, error in BAD_BOXES:
            for door, _ in BAD_DOORS:
                self.refused(error, [A, B, box], [GO, door])
            for rule, _ in BAD_RULES:
                self.refused(error, [A, B, box], [GO], [("old", YES, []), rule])


class DoorsTest(MadeCase):
    def test_names(self):
        for text in ["", "abcdefghi", "Abc", "a1", "a b", "a\n"]:
            self.refused(NoName, [], [(text, 1)])
            self.refused(NoName, [A], [GO, (text, 1)])

    def test_a_name_that_is_there(self):
        self.refused(Twice, [A, B], [("a", 1)])
        self.refused(Twice, [A, B], [GO, ("b", 1)])
        self.refused(Twice, [A, B], [GO, ("d", 1), ("go", 4)])
        self.refused(Twice, [], [GO, GO])

    def test_widths(self):
        for width in range(1, 65):
            self.let_by([], [("d", width)])
        for width in [0, 65, -1, 66, 10 ** 299, -(10 ** 299)]:
            self.refused(NoWidth, [], [("d", width)])

    def test_the_order_within_a_door(self):
        self.refused(NoName, [], [("D", 0)])
        self.refused(NoName, [], [("", 1), ("", 1)])
        self.refused(Twice, [A], [("a", 0)])
        self.refused(Twice, [], [GO, ("go", 65)])

    def test_door_by_door(self):
        for (one, error), (other, _) in itertools.permutations(BAD_DOORS, 2):
            self.refused(error, [A, B], [GO, one, other])

    def test_doors_ahead_of_rules(self):
        for (door, error), (rule, _) in itertools.product(BAD_DOORS, BAD_RULES):
            self.refused(error, [A, B], [GO, door], [("old", YES, []), rule])


class RulesTest(MadeCase):
    def test_names(self):
        for text in ["", "abcdefghi", "Abc", "a1", "a b", "a\n"]:
            self.rule_refused(NoName, name=text)

    def test_a_name_that_is_there(self):
        for name in ["a", "b", "go", "old"]:
            self.rule_refused(Twice, name=name)

    def test_guards_that_point_7_refuses(self):
        for term, error in BAD_TERMS:
            self.rule_refused(error, guard=term)

    def test_guards_of_another_width(self):
        for width in [2, 3, 64]:
            self.rule_refused(Unlike, guard=("num", width, 0))
        self.rule_refused(Unlike, guard=("box", "b"))
        self.rule_refused(Unlike, guard=("join", ("box", "a"), ("door", "go")))

    def test_writes_let_by(self):
        boxes = [(letter, 1, 0) for letter in LETTERS[:7]]
        writes = [(letter, YES) for letter in LETTERS[:7]]
        for many in range(7):
            self.let_by(boxes, [], [("self", YES, writes[:many])])
        self.refused(TooMany, boxes, [], [("self", YES, writes)])
        self.refused(TooMany, boxes, [], [("self", YES, writes[:6] * 2)])
        self.refused(TooMany, boxes, [], [("first", YES, writes[:6]), ("self", YES, writes)])

    def test_the_order_within_a_rule(self):
        seven = [("nobody", YES)] * 7
        self.rule_refused(NoName, ("box", "nobody"), seven, "")
        self.rule_refused(Twice, ("box", "nobody"), seven, "a")
        for term, error in BAD_TERMS:
            self.rule_refused(error, term, seven)
            self.rule_refused(error, term, [("a", ("num", 2, 5))])
        self.rule_refused(Unlike, ("box", "b"), seven)
        self.rule_refused(Unlike, ("box", "b"), [("nobody", YES)])
        self.rule_refused(TooMany, YES, seven)
        self.rule_refused(TooMany, YES, [("a", ("box", "nobody"))] * 7)

    def test_rule_by_rule(self):
        for (one, error), (other, _) in itertools.permutations(BAD_RULES, 2):
            self.refused(error, [A, B], [GO], [("old", YES, []), one, other])

    def test_the_later_one_of_two_rules_of_one_name_is_refused(self):
        self.refused(Twice, [A], [], [("r", YES, []), ("s", YES, []), ("r", FAULTS["NoWord"], [])])


class WritesTest(MadeCase):
    def test_boxes_that_there_are_none(self):
        for box in ["go", "self", "old", "nobody", "", "A", "aa", "a "]:
            self.rule_refused(Unknown, writes=[(box, YES)])
            self.rule_refused(Unknown, writes=[("a", YES), (box, YES)])

    def test_one_box_twice(self):
        self.rule_refused(Twice, writes=[("a", YES), ("a", YES)])
        self.rule_refused(Twice, writes=[("a", YES), ("b", ("num", 2, 0)), ("a", ("num", 1, 0))])
        self.let_by([A, B], [GO], [("old", YES, [("a", YES)]), ("self", YES, [("a", YES)])])

    def test_terms_that_point_7_refuses(self):
        for term, error in BAD_TERMS:
            self.rule_refused(error, writes=[("a", term)])
            self.rule_refused(error, writes=[("a", YES), ("b", term)])

    def test_terms_of_another_width_than_the_box(self):
        self.rule_refused(Unlike, writes=[("a", ("num", 2, 0))])
        self.rule_refused(Unlike, writes=[("b", ("num", 1, 0))])
        self.rule_refused(Unlike, writes=[("a", YES), ("b", ("num", 3, 0))])
        for width in [1, 2, 63, 64]:
            self.let_by([("a", width, 0)], [], [("self", YES, [("a", ("num", width, 0))])])
            self.refused(Unlike, [("a", width, 0)], [], [("self", YES, [("a", ("num", 65 - width, 0))])])

    def test_the_order_within_a_write(self):
        for term, error in BAD_TERMS:
            self.rule_refused(Unknown, writes=[("nobody", term)])
            self.rule_refused(Twice, writes=[("a", YES), ("a", term)])
        self.rule_refused(Unknown, writes=[("go", YES), ("go", YES)])
        self.rule_refused(Twice, writes=[("a", YES), ("a", ("num", 2, 0))])

    def test_write_by_write(self):
        for (one, error), (other, _) in itertools.permutations(BAD_WRITES, 2):
            self.rule_refused(error, writes=[one, other])
            self.rule_refused(error, writes=[("b", ("num", 2, 0)), one, other])


if __name__ == "__main__":
    unittest.main()
