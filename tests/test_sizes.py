"""Points 5 and 6: the parts of a term and how deep it is; the names that it reads."""

import unittest

from beatwright.terms import reads, size_of
from tests.samples import EACH_FORM, FAULTS, FORMS_OF_TWO, nested, tree


class SizeTest(unittest.TestCase):
    def test_each_form(self):
        self.assertEqual(len({sample[0][0] for sample in EACH_FORM}), 15)
        for term, parts, deep, _ in EACH_FORM:
            with self.subTest(term=term):
                self.assertEqual(size_of(term), (parts, deep))

    def test_it_is_a_tuple_of_whole_numbers(self):
        size = size_of(("num", 1, 0))
        self.assertIs(type(size), tuple)
        self.assertEqual([type(number) for number in size], [int, int])

    def test_numbers_and_names_are_no_parts(self):
        self.assertEqual(size_of(("part", ("num", 64, 0), 10, 20)), (2, 2))
        self.assertEqual(size_of(("box", "not")), (1, 1))

    def test_the_deepest_counts_wherever_it_stands(self):
        leaf = ("num", 1, 0)
        for form in FORMS_OF_TWO + ["join"]:
            self.assertEqual(size_of((form, nested(5), leaf)), (7, 6))
            self.assertEqual(size_of((form, leaf, nested(5))), (7, 6))
        self.assertEqual(size_of(("pick", nested(5), leaf, leaf)), (8, 6))
        self.assertEqual(size_of(("pick", leaf, nested(5), leaf)), (8, 6))
        self.assertEqual(size_of(("pick", leaf, leaf, nested(5))), (8, 6))
        self.assertEqual(size_of(("part", nested(5), 0, 1)), (6, 6))

    def test_one_and_the_same_term_counts_as_often_as_it_stands(self):
        term = ("box", "a")
        self.assertEqual(size_of(("and", term, term)), (3, 2))
        self.assertEqual(size_of(("pick", term, term, term)), (4, 2))
        for _ in range(8):
            term = ("plus", term, term)
        self.assertEqual(size_of(term), (511, 9))

    def test_terms_that_are_not_let_by(self):
        for term in FAULTS.values():
            self.assertEqual(size_of(("not", term))[1], size_of(term)[1] + 1)
        self.assertEqual(size_of(("num", 0, -1)), (1, 1))
        self.assertEqual(size_of(("part", ("box", ""), -1, 0)), (2, 2))
        self.assertEqual(size_of(("join", ("num", 64, 0), ("num", 64, 0))), (3, 2))
        self.assertEqual(size_of(("same", ("num", 1, 0), ("num", 2, 0))), (3, 2))

    def test_terms_larger_than_those_let_by(self):
        for deep in [12, 13, 40, 60]:
            self.assertEqual(size_of(nested(deep)), (deep, deep))
        for parts in [99, 100, 101, 500, 1000]:
            self.assertEqual(size_of(tree(parts))[0], parts)


class ReadsTest(unittest.TestCase):
    def test_each_form_that_reads(self):
        self.assertEqual(reads(("num", 1, 0)), ([], [], []))
        self.assertEqual(reads(("box", "a")), (["a"], [], []))
        self.assertEqual(reads(("late", "a")), ([], ["a"], []))
        self.assertEqual(reads(("door", "a")), ([], [], ["a"]))

    def test_names_are_found_in_every_place_of_every_form(self):
        early, late, door = ("box", "a"), ("late", "b"), ("door", "c")
        for form in FORMS_OF_TWO + ["join"]:
            self.assertEqual(reads((form, early, door)), (["a"], [], ["c"]))
        self.assertEqual(reads(("pick", early, late, door)), (["a"], ["b"], ["c"]))
        self.assertEqual(reads(("not", late)), ([], ["b"], []))
        self.assertEqual(reads(("part", door, 0, 1)), ([], [], ["c"]))

    def test_names_rise_and_stand_once(self):
        term = ("num", 1, 0)
        for name in ["mm", "b", "zz", "a", "b", "mmm", "a"]:
            for form in ["box", "late", "door"]:
                term = ("xor", (form, name), term)
        names = ["a", "b", "mm", "mmm", "zz"]
        self.assertEqual(reads(term), (names, names, names))

    def test_early_and_late_and_doors_are_told_apart(self):
        term = ("pick", ("door", "x"), ("and", ("box", "b"), ("late", "a")), ("or", ("box", "a"), ("late", "c")))
        self.assertEqual(reads(term), (["a", "b"], ["a", "c"], ["x"]))

    def test_any_text_may_stand_as_a_name(self):
        term = ("and", ("box", "box"), ("and", ("late", ""), ("door", "No Name")))
        self.assertEqual(reads(term), (["box"], [""], ["No Name"]))

    def test_terms_that_are_not_let_by_are_not_refused(self):
        for term in FAULTS.values():
            self.assertIs(type(reads(term)), tuple)
        self.assertEqual(reads(nested(60, ("box", "a"))), (["a"], [], []))
        self.assertEqual(reads(tree(1000, ("late", "a"))), ([], ["a"], []))

    def test_told_lists_are_the_askers_own(self):
        term = ("and", ("box", "a"), ("and", ("late", "b"), ("door", "c")))
        for told in reads(term):
            self.assertIs(type(told), list)
            told.append("z")
        self.assertEqual(reads(term), (["a"], ["b"], ["c"]))
        none = reads(("num", 1, 0))
        none[0].append("z")
        self.assertEqual(none[1:], ([], []))
        self.assertEqual(reads(("num", 1, 0)), ([], [], []))


if __name__ == "__main__":
    unittest.main()
