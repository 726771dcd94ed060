"""Points 11 and 12: half-known worths."""

import copy
import itertools
import random
import unittest

from beatwright.dims import dim
from beatwright.terms import worth
from tests.samples import FORMS_OF_TWO, drawn_term, nested, tree

MARKS = [0, 1, 2]
SUMS = ["plus", "minus"]


def not_mark(mark):
    return {0: 1, 1: 0, 2: 2}[mark]


def sum_marks(one, other, carry):
    """The marks of a sum and what is carried out above the highest bit, as point 11 tells them."""
    told = []
    for pair in zip(one, other):
        three = pair + (carry,)
        told.append(2 if 2 in three else sum(three) % 2)
        carry = 1 if three.count(1) >= 2 else 0 if three.count(0) >= 2 else 2
    return told, carry


def marks_by_point(term, early, late, doors):
    """The half-known worth mark by mark, in the very words of point 11."""
    form = term[0]
    if form == "num":
        return [int(sign) for sign in reversed(bin(term[2])[2:].zfill(term[1]))]
    if form in ("box", "late", "door"):
        return list({"box": early, "late": late, "door": doors}[form][term[1]])
    held = [marks_by_point(inner, early, late, doors) for inner in term[1:] if isinstance(inner, tuple)]
    if form == "not":
        return [not_mark(mark) for mark in held[0]]
    if form == "part":
        return held[0][term[2]:term[2] + term[3]]
    if form == "join":
        return held[1] + held[0]
    if form == "pick":
        if held[0] != [2]:
            return held[1] if held[0] == [1] else held[2]
        return [one if one == other else 2 for one, other in zip(held[1], held[2])]
    return marks_of_two(form, *held)


def marks_of_two(form, one, other):
    pairs = list(zip(one, other))
    if form == "and":
        return [0 if 0 in pair else 1 if pair == (1, 1) else 2 for pair in pairs]
    if form == "or":
        return [1 if 1 in pair else 0 if pair == (0, 0) else 2 for pair in pairs]
    if form == "xor":
        return [2 if 2 in pair else 1 if pair[0] != pair[1] else 0 for pair in pairs]
    if form == "plus":
        return sum_marks(one, other, 0)[0]
    if form == "same":
        return [0 if (0, 1) in pairs or (1, 0) in pairs else 1 if 2 not in one + other else 2]
    told, carry = sum_marks(one, [not_mark(mark) for mark in other], 1)
    return told if form == "minus" else [not_mark(carry)]


def all_marks(width):
    return [list(marks) for marks in itertools.product(MARKS, repeat=width)]


class DimCase(unittest.TestCase):
    def of_two(self, form, one, other):
        told = dim((form, ("box", "a"), ("late", "b")), {"a": one}, {"b": other}, {})
        self.assertIs(type(told), list)
        for mark in told:
            self.assertIs(type(mark), int)
        return told

    def picked(self, chosen, one, other):
        term = ("pick", ("door", "c"), ("box", "a"), ("late", "b"))
        return dim(term, {"a": one}, {"b": other}, {"c": [chosen]})


class FormsTest(DimCase):
    def test_num(self):
        self.assertEqual(dim(("num", 1, 0), {}, {}, {}), [0])
        self.assertEqual(dim(("num", 1, 1), {}, {}, {}), [1])
        self.assertEqual(dim(("num", 4, 6), {}, {}, {}), [0, 1, 1, 0])
        self.assertEqual(dim(("num", 64, 2 ** 63), {}, {}, {}), [0] * 63 + [1])

    def test_what_is_read(self):
        early, late, doors = {"a": [0, 2, 1]}, {"a": [2, 2]}, {"a": [1]}
        self.assertEqual(dim(("box", "a"), early, late, doors), [0, 2, 1])
        self.assertEqual(dim(("late", "a"), early, late, doors), [2, 2])
        self.assertEqual(dim(("door", "a"), early, late, doors), [1])
        for marks in all_marks(3) + [[2] * 64, [0, 1, 2, 2] * 16]:
            self.assertEqual(dim(("box", "a"), {"a": marks}, {}, {}), marks)

    def test_not(self):
        self.assertEqual(dim(("not", ("box", "a")), {"a": [0, 1, 2, 1]}, {}, {}), [1, 0, 2, 0])
        self.assertEqual([dim(("not", ("door", "a")), {}, {}, {"a": [mark]}) for mark in MARKS], [[1], [0], [2]])

    def test_bit_by_bit_for_every_pair_of_marks(self):
        one, other = [0, 0, 0, 1, 1, 1, 2, 2, 2], [0, 1, 2, 0, 1, 2, 0, 1, 2]
        self.assertEqual(self.of_two("and", one, other), [0, 0, 0, 0, 1, 2, 0, 2, 2])
        self.assertEqual(self.of_two("or", one, other), [0, 1, 2, 1, 1, 1, 2, 1, 2])
        self.assertEqual(self.of_two("xor", one, other), [0, 1, 2, 1, 0, 2, 2, 2, 2])

    def test_forms_of_width_1_for_every_pair_of_marks(self):
        asked = {
            "and": [0, 0, 0, 0, 1, 2, 0, 2, 2],
            "or": [0, 1, 2, 1, 1, 1, 2, 1, 2],
            "xor": [0, 1, 2, 1, 0, 2, 2, 2, 2],
            "plus": [0, 1, 2, 1, 0, 2, 2, 2, 2],
            "minus": [0, 1, 2, 1, 0, 2, 2, 2, 2],
            "less": [0, 1, 2, 0, 0, 0, 0, 2, 2],
            "same": [1, 0, 2, 0, 1, 2, 2, 2, 2],
        }
        for form, told in asked.items():
            pairs = itertools.product(MARKS, repeat=2)
            self.assertEqual([self.of_two(form, [one], [other]) for one, other in pairs], [[mark] for mark in told])

    def test_a_term_that_stands_twice_is_not_known_to_be_one(self):
        early = {"a": [2, 1]}
        box = ("box", "a")
        self.assertEqual(dim(("xor", box, box), early, {}, {}), [2, 0])
        self.assertEqual(dim(("minus", box, box), early, {}, {}), [2, 2])
        self.assertEqual(dim(("same", box, box), early, {}, {}), [2])
        self.assertEqual(dim(("and", box, ("not", box)), early, {}, {}), [2, 0])

    def test_join_and_part(self):
        self.assertEqual(self.of_two("join", [0, 2], [1, 2, 0]), [1, 2, 0, 0, 2])
        self.assertEqual(self.of_two("join", [2], [1]), [1, 2])
        self.assertEqual(self.of_two("join", [2] * 63, [1]), [1] + [2] * 63)
        self.assertEqual(self.of_two("join", [0], [2] * 63), [2] * 63 + [0])
        marks = [0, 1, 2, 1, 0, 2]
        for low in range(6):
            for many in range(1, 7 - low):
                self.assertEqual(dim(("part", ("box", "a"), low, many), {"a": marks}, {}, {}), marks[low:low + many])
        wide = [2, 1] + [0] * 60 + [1, 2]
        self.assertEqual(dim(("part", ("box", "a"), 0, 64), {"a": wide}, {}, {}), wide)
        self.assertEqual(dim(("part", ("box", "a"), 63, 1), {"a": wide}, {}, {}), [2])
        self.assertEqual(dim(("part", ("box", "a"), 0, 1), {"a": wide}, {}, {}), [2])
        self.assertEqual(dim(("part", ("box", "a"), 62, 1), {"a": wide}, {}, {}), [1])


class CarryTest(DimCase):
    # The lowest marks of T and U that carry 0, 1 or 2 into the next place.
    INTO = {"plus": {0: (0, 0), 1: (1, 1), 2: (2, 1)}, "minus": {0: (0, 1), 1: (1, 0), 2: (2, 2)}}

    def test_every_three_marks(self):
        for form, carry, one, other in itertools.product(SUMS, MARKS, MARKS, MARKS):
            three = (one, other if form == "plus" else not_mark(other), carry)
            mark = 2 if 2 in three else sum(three) % 2
            out = 1 if three.count(1) >= 2 else 0 if three.count(0) >= 2 else 2
            low = self.INTO[form][carry]
            # Above stands T 0 and U 0, or its "not" 0: there the carry itself is told.
            above = 0 if form == "plus" else 1
            told = self.of_two(form, [low[0], one, 0], [low[1], other, above])
            self.assertEqual(told[1:], [mark, out], (form, three))

    def test_less_by_the_carry(self):
        for carry, one, other in itertools.product(MARKS, repeat=3):
            low = self.INTO["minus"][carry]
            three = (one, not_mark(other), carry)
            out = 1 if three.count(1) >= 2 else 0 if three.count(0) >= 2 else 2
            self.assertEqual(self.of_two("less", [low[0], one], [low[1], other]), [not_mark(out)], three)

    def test_a_carry_that_is_known_ends_doubt(self):
        self.assertEqual(self.of_two("plus", [2, 1, 0, 0], [1, 1, 0, 0]), [2, 2, 1, 0])
        self.assertEqual(self.of_two("plus", [2, 0, 1, 0], [2, 0, 1, 0]), [2, 2, 0, 1])
        self.assertEqual(self.of_two("plus", [2, 1, 1, 0], [0, 0, 0, 0]), [2, 1, 1, 0])
        self.assertEqual(self.of_two("plus", [2, 1, 1, 0], [1, 0, 0, 0]), [2, 2, 2, 2])
        self.assertEqual(self.of_two("minus", [0, 0, 0], [2, 0, 0]), [2, 2, 2])
        self.assertEqual(self.of_two("minus", [1, 0, 0], [2, 0, 0]), [2, 0, 0])
        self.assertEqual(self.of_two("minus", [2, 2, 0], [2, 2, 1]), [2, 2, 2])

    def test_what_is_carried_out_is_left(self):
        self.assertEqual(self.of_two("plus", [1, 1], [1, 1]), [0, 1])
        self.assertEqual(self.of_two("plus", [1, 2], [1, 2]), [0, 2])
        self.assertEqual(self.of_two("minus", [0, 0], [1, 1]), [1, 0])
        for form in SUMS:
            self.assertEqual(len(self.of_two(form, [2] * 64, [1] * 64)), 64)
        self.assertEqual(self.of_two("plus", [1] * 64, [1] + [0] * 63), [0] * 64)
        self.assertEqual(self.of_two("plus", [1] * 64, [2] + [0] * 63), [2] * 64)


class LessAndSameTest(DimCase):
    def test_less_decided_or_not(self):
        self.assertEqual(self.of_two("less", [2, 2, 0], [2, 2, 1]), [1])
        self.assertEqual(self.of_two("less", [2, 2, 1], [2, 2, 0]), [0])
        self.assertEqual(self.of_two("less", [2, 2, 1], [2, 2, 1]), [2])
        self.assertEqual(self.of_two("less", [2, 0, 0], [0, 1, 0]), [1])
        self.assertEqual(self.of_two("less", [1, 1, 1], [2, 2, 2]), [0])
        self.assertEqual(self.of_two("less", [2, 2, 2], [0, 0, 0]), [0])
        self.assertEqual(self.of_two("less", [0, 0, 0], [2, 2, 2]), [2])
        self.assertEqual(self.of_two("less", [0, 0, 0], [2, 1, 2]), [1])
        self.assertEqual(self.of_two("less", [0] + [2] * 63, [1] + [2] * 63), [2])
        self.assertEqual(self.of_two("less", [2] * 63 + [0], [2] * 63 + [1]), [1])

    def test_same_decided_or_not(self):
        self.assertEqual(self.of_two("same", [2, 0, 2], [2, 1, 2]), [0])
        self.assertEqual(self.of_two("same", [2, 1, 2], [2, 0, 2]), [0])
        self.assertEqual(self.of_two("same", [2, 1, 0], [0, 1, 0]), [2])
        self.assertEqual(self.of_two("same", [0, 1, 0], [2, 1, 0]), [2])
        self.assertEqual(self.of_two("same", [0, 1, 0], [0, 1, 0]), [1])
        self.assertEqual(self.of_two("same", [0, 1, 0], [0, 1, 1]), [0])
        self.assertEqual(self.of_two("same", [2] * 63 + [0], [2] * 63 + [1]), [0])
        self.assertEqual(self.of_two("same", [1] * 64, [1] * 63 + [2]), [2])


class PickTest(DimCase):
    def test_c_known(self):
        self.assertEqual(self.picked(1, [0, 2, 1], [1, 1, 2]), [0, 2, 1])
        self.assertEqual(self.picked(0, [0, 2, 1], [1, 1, 2]), [1, 1, 2])

    def test_c_not_known_for_every_pair_of_marks(self):
        one, other = [0, 0, 0, 1, 1, 1, 2, 2, 2], [0, 1, 2, 0, 1, 2, 0, 1, 2]
        self.assertEqual(self.picked(2, one, other), [0, 2, 2, 2, 1, 2, 2, 2, 2])

    def test_wide(self):
        one, other = [0, 1, 2, 1] * 16, [0, 1, 2, 0] * 16
        self.assertEqual(self.picked(2, one, other), [0, 1, 2, 2] * 16)
        self.assertEqual(self.picked(1, one, other), one)
        self.assertEqual(self.picked(0, one, other), other)


class AgainstThePointTest(DimCase):
    def test_forms_of_two_for_all_small_words(self):
        for width in [1, 2, 3]:
            for one, other in itertools.product(all_marks(width), repeat=2):
                for form in FORMS_OF_TWO:
                    self.assertEqual(self.of_two(form, one, other), marks_of_two(form, one, other), (form, one, other))

    def test_drawn_terms_of_all_widths(self):
        chance = random.Random(11)
        for _ in range(1500):
            width = chance.choice([1, 2, 5, 63, 64, chance.randrange(1, 65)])
            boxes, doors = {"a": width, "b": width, "c": 1, "w": 64}, {"d": width, "g": 1}
            term = drawn_term(chance, chance.choice([1, width]), chance.randrange(1, 6), boxes, doors)
            early, late, door_marks = [drawn_marks(chance, widths) for widths in (boxes, boxes, doors)]
            asked = marks_by_point(term, early, late, door_marks)
            self.assertEqual(dim(term, early, late, door_marks), asked, term)

    def test_the_largest_terms_let_by(self):
        for term in [nested(12, ("box", "a")), tree(99, ("box", "a")), tree(100, ("box", "a"))]:
            for marks in [[2] * 64, [0, 1, 2, 1] * 16]:
                self.assertEqual(dim(term, {"a": marks}, {}, {}), marks_by_point(term, {"a": marks}, {}, {}))


def drawn_marks(chance, widths):
    few = chance.choice([0, 1, 3])
    return {name: [chance.choice([0, 1] * 2 + [2] * few) for _ in range(widths[name])] for name in widths}


class HandedInTest(DimCase):
    TERM = ("pick", ("door", "g"), ("plus", ("box", "a"), ("late", "b")), ("door", "d"))
    EARLY, LATE, DOORS = {"a": [0, 2]}, {"b": [1, 1]}, {"g": [1], "d": [2, 0]}

    def test_names_that_are_not_read_may_be_left_out_or_have_whatever_marks(self):
        asked = dim(self.TERM, self.EARLY, self.LATE, self.DOORS)
        self.assertEqual(asked, [1, 2])
        early = dict(self.EARLY, b=[], zz=[2] * 70, g=[1, 0])
        late = dict(self.LATE, a=[7, -1], zz=[])
        doors = dict(self.DOORS, a=[0], b=[9])
        self.assertEqual(dim(self.TERM, early, late, doors), asked)
        self.assertEqual(dim(("num", 2, 1), early, late, doors), [1, 0])

    def test_the_lists_handed_in_stay(self):
        handed = copy.deepcopy([self.EARLY, self.LATE, self.DOORS])
        before = copy.deepcopy(handed)
        dim(self.TERM, *handed)
        self.assertEqual(handed, before)

    def test_no_list_handed_in_is_handed_back(self):
        marks = [0, 1, 2]
        box = ("box", "a")
        terms = [box, ("part", box, 0, 3), ("pick", ("num", 1, 1), box, box), ("pick", ("num", 1, 0), box, box)]
        terms += [("not", ("not", box)), ("and", box, box)]
        for term in terms + [("late", "a"), ("door", "a")]:
            told = dim(term, {"a": marks}, {"a": marks}, {"a": marks})
            self.assertEqual(told, [0, 1, 2])
            self.assertIsNot(told, marks)
            told[0] = 2
            told.append(1)
            self.assertEqual(marks, [0, 1, 2])
            self.assertEqual(dim(term, {"a": marks}, {"a": marks}, {"a": marks}), [0, 1, 2])

    def test_nothing_is_kept_from_an_earlier_asking(self):
        marks = [0, 1]
        told = dim(("box", "a"), {"a": marks}, {}, {})
        marks[0] = 2
        self.assertEqual(told, [0, 1])
        self.assertEqual(dim(("box", "a"), {"a": marks}, {}, {}), [2, 1])


class WhateverBitsTest(unittest.TestCase):
    """Point 12."""

    BOXES, DOORS = {"a": 3, "b": 3, "c": 1}, {"d": 3, "g": 1}

    def half_known(self, chance, unknown):
        """Marks of all that can be read, with so many that are not known."""
        places = [(sort, name, place) for sort, widths in enumerate([self.BOXES, self.BOXES, self.DOORS])
                  for name in widths for place in range(widths[name])]
        marks = [{name: [chance.randrange(2) for _ in range(widths[name])] for name in widths}
                 for widths in (self.BOXES, self.BOXES, self.DOORS)]
        for sort, name, place in chance.sample(places, unknown):
            marks[sort][name][place] = 2
        return marks

    def filled(self, marks):
        """Every way of putting bits in the place of marks 2, as words."""
        unknown = [(sort, name, place) for sort, named in enumerate(marks)
                   for name in named for place, mark in enumerate(named[name]) if mark == 2]
        for bits in itertools.product([0, 1], repeat=len(unknown)):
            put = dict(zip(unknown, bits))
            yield [{name: sum(put.get((sort, name, place), mark) << place for place, mark in enumerate(named[name]))
                    for name in named} for sort, named in enumerate(marks)]

    def test_known_bits_hold_for_drawn_terms(self):
        chance = random.Random(12)
        known = 0
        for _ in range(400):
            term = drawn_term(chance, chance.choice([1, 1, 2, 3, 5]), chance.randrange(2, 6), self.BOXES, self.DOORS)
            marks = self.half_known(chance, chance.randrange(1, 7))
            told = dim(term, *marks)
            known += sum(mark != 2 for mark in told)
            for words in self.filled(marks):
                word = worth(term, (self.BOXES, self.DOORS), *words)
                for place, mark in enumerate(told):
                    self.assertIn(mark, (2, (word >> place) & 1), (term, marks))
                self.assertEqual(word >> len(told), 0)
        self.assertGreater(known, 400)

    def test_with_all_bits_known_it_is_the_worth(self):
        chance = random.Random(13)
        for _ in range(400):
            term = drawn_term(chance, chance.choice([1, 2, 3]), chance.randrange(2, 6), self.BOXES, self.DOORS)
            marks = self.half_known(chance, 0)
            words = next(self.filled(marks))
            word = worth(term, (self.BOXES, self.DOORS), *words)
            told = dim(term, *marks)
            self.assertEqual(told, [(word >> place) & 1 for place in range(len(told))])


if __name__ == "__main__":
    unittest.main()
