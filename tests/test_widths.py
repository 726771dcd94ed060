"""Points 6 and 7: the width of a term, and what is refused, at its edge and beyond it."""

import itertools
import unittest

from beatwright import errors
from beatwright.errors import NoWidth, NoWord, TooMany, Unknown, Unlike
from beatwright.terms import width_of
from tests.samples import BOXES, DOORS, EACH_FORM, FAULTS, FORMS_OF_TWO, nested, tree


def num(width):
    return ("num", width, 0)


class WidthCase(unittest.TestCase):
    def width(self, term):
        return width_of(term, BOXES, DOORS)

    def refused(self, term, error):
        with self.subTest(term=term):
            with self.assertRaises(errors.BeatError) as caught:
                width_of(term, BOXES, DOORS)
            self.assertIs(type(caught.exception), error)


class LetByTest(WidthCase):
    def test_each_form(self):
        for term, _, _, width in EACH_FORM:
            with self.subTest(term=term):
                self.assertEqual(self.width(term), width)
                self.assertIs(type(self.width(term)), int)

    def test_forms_of_two_by_their_terms(self):
        for width in [1, 2, 17, 64]:
            for form in FORMS_OF_TWO:
                asked = 1 if form in ("less", "same") else width
                self.assertEqual(self.width((form, num(width), num(width))), asked)
            self.assertEqual(self.width(("not", num(width))), width)
            self.assertEqual(self.width(("pick", num(1), num(width), num(width))), width)

    def test_the_widths_handed_in_are_asked(self):
        term = ("join", ("box", "a"), ("join", ("late", "b"), ("door", "a")))
        self.assertEqual(width_of(term, {"a": 3, "b": 5}, {"a": 7}), 15)
        self.assertEqual(width_of(term, {"a": 30, "b": 2}, {"a": 32}), 64)

    def test_what_is_handed_in_stays(self):
        boxes = {"a": 3}
        doors = {"d": 3}
        width_of(("and", ("box", "a"), ("door", "d")), boxes, doors)
        with self.assertRaises(Unknown):
            width_of(("box", "b"), boxes, doors)
        self.assertEqual((boxes, doors), ({"a": 3}, {"d": 3}))


class TooManyTest(WidthCase):
    def test_parts(self):
        for parts in [99, 100]:
            self.assertEqual(self.width(tree(parts)), 1)
        for parts in [101, 102, 500, 1000]:
            self.refused(tree(parts), TooMany)

    def test_one_term_standing_often(self):
        term = ("box", "bit")
        for _ in range(5):
            term = ("and", term, term)
        self.assertEqual(self.width(term), 1)
        self.refused(("and", term, term), TooMany)

    def test_depth(self):
        for deep in [1, 11, 12]:
            self.assertEqual(self.width(nested(deep)), 1)
        for deep in [13, 14, 60]:
            self.refused(nested(deep), TooMany)
        self.refused(("pick", num(1), num(1), nested(12)), TooMany)

    def test_it_goes_ahead_of_every_other_fault(self):
        for fault in FAULTS.values():
            self.refused(("and", fault, nested(12)), TooMany)
            self.refused(("and", fault, tree(100)), TooMany)
            self.refused(nested(13, fault), TooMany)


class UnknownTest(WidthCase):
    def test_names_that_nothing_has(self):
        for name in ["nobody", "", "fours", "fou", "FOUR", "four ", "no name"]:
            self.refused(("box", name), Unknown)
            self.refused(("late", name), Unknown)
            self.refused(("door", name), Unknown)

    def test_a_doors_name_in_a_boxs_place(self):
        self.refused(("box", "gate"), Unknown)
        self.refused(("late", "gate"), Unknown)

    def test_a_boxs_name_in_a_doors_place(self):
        self.refused(("door", "four"), Unknown)

    def test_there_may_be_none_at_all(self):
        for form in ["box", "late", "door"]:
            with self.assertRaises(Unknown):
                width_of((form, "a"), {}, {})


class NoWidthTest(WidthCase):
    def test_num(self):
        for width in range(1, 65):
            self.assertEqual(self.width(num(width)), width)
        for width in [0, 65, -1, 66, 2 ** 64, 10 ** 299, -(10 ** 299)]:
            self.refused(num(width), NoWidth)

    def test_join(self):
        for left in [1, 2, 32, 62, 63]:
            self.assertEqual(self.width(("join", num(left), num(64 - left))), 64)
            self.refused(("join", num(left), num(65 - left)), NoWidth)
        self.refused(("join", num(64), num(64)), NoWidth)
        self.assertEqual(self.width(("join", ("box", "most"), ("door", "flag"))), 64)
        self.refused(("join", ("box", "wide"), ("door", "flag")), NoWidth)

    def test_part(self):
        for width in [1, 4, 64]:
            for low in range(-2, width + 2):
                for many in [-1, 0, 1, width - low - 1, width - low, width - low + 1]:
                    term = ("part", num(width), low, many)
                    if low >= 0 and many >= 1 and low + many <= width:
                        self.assertEqual(self.width(term), many)
                    else:
                        self.refused(term, NoWidth)

    def test_part_at_its_edges(self):
        term = ("box", "four")
        self.assertEqual(self.width(("part", term, 0, 4)), 4)
        self.assertEqual(self.width(("part", term, 3, 1)), 1)
        for low, many in [(-1, 2), (-1, 1), (0, 0), (2, 0), (0, 5), (1, 4), (4, 1), (4, 0), (5, -1), (0, 10 ** 299)]:
            self.refused(("part", term, low, many), NoWidth)


class NoWordTest(WidthCase):
    def test_num(self):
        for width in [1, 2, 5, 63, 64]:
            for word in [0, 1, 2 ** width - 1]:
                self.assertEqual(self.width(("num", width, word)), width)
            for word in [-1, 2 ** width, 2 ** width + 1, 10 ** 299, -(10 ** 299)]:
                self.refused(("num", width, word), NoWord)

    def test_the_width_goes_ahead_of_the_word(self):
        for width in [-1, 0, 65]:
            for word in [-1, 2 ** 70]:
                self.refused(("num", width, word), NoWidth)


class UnlikeTest(WidthCase):
    def test_two_terms_of_unlike_widths(self):
        for form in FORMS_OF_TWO:
            for left, right in [(1, 2), (2, 1), (63, 64), (64, 63), (4, 64)]:
                self.refused((form, num(left), num(right)), Unlike)
            self.refused((form, ("box", "four"), ("door", "pair")), Unlike)

    def test_join_lets_them_by(self):
        self.assertEqual(self.width(("join", num(1), num(2))), 3)

    def test_pick(self):
        self.refused(("pick", num(2), num(4), num(4)), Unlike)
        self.refused(("pick", num(4), num(4), num(4)), Unlike)
        self.refused(("pick", num(1), num(4), num(3)), Unlike)
        self.refused(("pick", num(1), num(1), num(4)), Unlike)
        self.refused(("pick", num(2), num(4), num(3)), Unlike)

    def test_less_and_same_are_of_width_1(self):
        for form in ["less", "same"]:
            asked = (form, num(4), num(4))
            self.assertEqual(self.width(("pick", asked, num(4), num(4))), 4)
            self.refused(("and", asked, num(4)), Unlike)


class FirstFaultTest(WidthCase):
    def pairs_of_faults(self):
        return itertools.permutations(FAULTS.items(), 2)

    def test_from_left_to_right(self):
        for (name, left), (_, right) in self.pairs_of_faults():
            error = getattr(errors, name)
            for form in FORMS_OF_TWO + ["join"]:
                self.refused((form, left, right), error)
            self.refused(("pick", left, right, num(1)), error)
            self.refused(("pick", num(1), left, right), error)
            self.refused(("pick", left, num(1), right), error)
            self.refused(("and", ("not", ("not", left)), right), error)
            self.refused(("and", left, ("not", ("not", right))), error)

    def test_a_fault_is_told_in_whatever_place(self):
        for name, fault in FAULTS.items():
            error = getattr(errors, name)
            for form in FORMS_OF_TWO + ["join"]:
                self.refused((form, num(1), fault), error)
                self.refused((form, fault, num(1)), error)
            for place in range(3):
                terms = [num(1), num(1), num(1)]
                terms[place] = fault
                self.refused(("pick", *terms), error)
            self.refused(("not", fault), error)
            self.refused(("part", fault, 0, 1), error)

    def test_what_is_wrong_within_goes_ahead_of_the_term_itself(self):
        for name in ["Unknown", "NoWord", "Unlike"]:
            self.refused(("part", FAULTS[name], -1, 0), getattr(errors, name))
        for name in ["Unknown", "NoWidth", "NoWord"]:
            fault = FAULTS[name]
            error = getattr(errors, name)
            self.refused(("pick", num(2), fault, num(1)), error)
            self.refused(("pick", num(2), num(1), fault), error)
            self.refused(("pick", num(2), num(1), ("not", fault)), error)
            self.refused(("pick", ("pick", num(1), num(2), fault), num(1), num(2)), error)
        self.refused(("plus", ("part", num(4), 0, 2), ("num", 4, 16)), NoWord)
        self.refused(("join", num(64), ("num", 64, 2 ** 64)), NoWord)
        self.refused(("join", ("num", 64, -1), num(64)), NoWord)
        self.refused(("join", num(64), ("and", num(1), num(64))), Unlike)

    def test_an_earlier_terms_own_fault_goes_ahead_of_a_later_terms(self):
        self.refused(("and", ("and", num(1), num(2)), ("box", "nobody")), Unlike)
        self.refused(("and", ("part", num(1), 0, 2), ("box", "nobody")), NoWidth)
        self.refused(("and", ("join", num(64), num(1)), ("num", 1, 2)), NoWidth)
        self.refused(("pick", ("pick", num(2), num(1), num(1)), num(1), ("box", "nobody")), Unlike)


if __name__ == "__main__":
    unittest.main()
