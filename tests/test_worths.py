"""Points 5 and 8: the worth of a term."""

import copy
import random
import unittest

from beatwright.terms import size_of, width_of, worth
from tests.samples import drawn_term, nested, tree

BOXES = {"a": 4, "b": 4, "w": 64, "v": 64, "c": 1, "n": 63}
DOORS = {"d": 4, "g": 1, "x": 64}
EARLY = {"a": 5, "b": 12, "w": 2 ** 64 - 1, "v": 1, "c": 1, "n": 2 ** 63 - 1}
LATE = {"a": 10, "b": 3, "w": 7, "v": 2 ** 63, "c": 0, "n": 0}
WORDS = {"d": 9, "g": 1, "x": 2 ** 64 - 2}
TOP = 2 ** 64 - 1


def num(width, word):
    return ("num", width, word)


def word_from(bits):
    return int("".join(str(bit) for bit in reversed(bits)), 2)


def added(left, right, carry):
    """The bits of a sum and what is carried out of it."""
    told = []
    for one, other in zip(left, right):
        told.append((one + other + carry) % 2)
        carry = (one + other + carry) // 2
    return told, carry


def bits_worth(term, widths, early, late, doors):
    """The bits of a term's worth, the lowest first, told bit by bit: a second way to come to the worth."""
    form = term[0]
    if form == "num":
        return [int(sign) for sign in reversed(bin(term[2])[2:].zfill(term[1]))]
    if form in ("box", "late", "door"):
        words = {"box": early, "late": late, "door": doors}[form]
        width = widths[1 if form == "door" else 0][term[1]]
        return [int(sign) for sign in reversed(bin(words[term[1]])[2:].zfill(width))]
    told = [bits_worth(inner, widths, early, late, doors) for inner in term[1:] if isinstance(inner, tuple)]
    if form == "not":
        return [1 - bit for bit in told[0]]
    if form == "part":
        return told[0][term[2]:term[2] + term[3]]
    if form == "pick":
        return told[1] if told[0] == [1] else told[2]
    if form == "join":
        return told[1] + told[0]
    if form == "plus":
        return added(told[0], told[1], 0)[0]
    if form in ("minus", "less"):
        bits, carry = added(told[0], [1 - bit for bit in told[1]], 1)
        return bits if form == "minus" else [1 - carry]
    if form == "same":
        return [int(told[0] == told[1])]
    tell = {"and": min, "or": max, "xor": lambda one, other: int(one != other)}[form]
    return [tell(one, other) for one, other in zip(*told)]


class WorthCase(unittest.TestCase):
    def told(self, term):
        word = worth(term, (BOXES, DOORS), EARLY, LATE, WORDS)
        self.assertIs(type(word), int)
        return word


class FormsTest(WorthCase):
    def test_what_is_read(self):
        self.assertEqual(self.told(num(4, 11)), 11)
        self.assertEqual(self.told(num(64, TOP)), TOP)
        self.assertEqual(self.told(("box", "a")), 5)
        self.assertEqual(self.told(("late", "a")), 10)
        self.assertEqual(self.told(("door", "d")), 9)

    def test_early_and_late_words_of_one_box(self):
        self.assertEqual(self.told(("minus", ("late", "a"), ("box", "a"))), 5)
        self.assertEqual(self.told(("minus", ("box", "a"), ("late", "a"))), 11)
        self.assertEqual(self.told(("join", ("box", "b"), ("late", "b"))), 12 * 16 + 3)
        self.assertEqual(self.told(("same", ("box", "b"), ("late", "b"))), 0)

    def test_a_box_and_a_door_of_one_name(self):
        widths = ({"a": 4}, {"a": 2})
        self.assertEqual(worth(("join", ("door", "a"), ("box", "a")), widths, {"a": 9}, {"a": 0}, {"a": 3}), 57)
        self.assertEqual(worth(("not", ("door", "a")), widths, {"a": 9}, {"a": 0}, {"a": 1}), 2)
        self.assertEqual(worth(("not", ("late", "a")), widths, {"a": 9}, {"a": 0}, {"a": 1}), 15)

    def test_bit_by_bit(self):
        self.assertEqual(self.told(("not", num(4, 5))), 10)
        self.assertEqual(self.told(("not", num(1, 0))), 1)
        self.assertEqual(self.told(("not", num(1, 1))), 0)
        self.assertEqual(self.told(("not", ("box", "w"))), 0)
        self.assertEqual(self.told(("not", num(64, 0))), TOP)
        self.assertEqual(self.told(("and", num(4, 12), num(4, 10))), 8)
        self.assertEqual(self.told(("or", num(4, 12), num(4, 10))), 14)
        self.assertEqual(self.told(("xor", num(4, 12), num(4, 10))), 6)

    def test_sums_are_cut(self):
        self.assertEqual(self.told(("plus", num(4, 7), num(4, 8))), 15)
        self.assertEqual(self.told(("plus", num(4, 8), num(4, 8))), 0)
        self.assertEqual(self.told(("plus", num(4, 15), num(4, 15))), 14)
        self.assertEqual(self.told(("plus", num(1, 1), num(1, 1))), 0)
        self.assertEqual(self.told(("plus", ("box", "w"), ("box", "v"))), 0)
        self.assertEqual(self.told(("plus", ("box", "w"), ("box", "w"))), TOP - 1)

    def test_differences_are_cut(self):
        self.assertEqual(self.told(("minus", num(4, 9), num(4, 2))), 7)
        self.assertEqual(self.told(("minus", num(4, 2), num(4, 9))), 9)
        self.assertEqual(self.told(("minus", num(4, 0), num(4, 1))), 15)
        self.assertEqual(self.told(("minus", num(4, 3), num(4, 3))), 0)
        self.assertEqual(self.told(("minus", num(1, 0), num(1, 1))), 1)
        self.assertEqual(self.told(("minus", num(64, 0), ("box", "v"))), TOP)

    def test_less_and_same_at_neighbours(self):
        for width in [1, 2, 4, 63, 64]:
            lower = {0, 2 ** (width - 1) - 1, 2 ** (width - 1), 2 ** width - 2}
            for word in [word for word in lower if word + 1 < 2 ** width]:
                low, high = num(width, word), num(width, word + 1)
                self.assertEqual(self.told(("less", low, high)), 1)
                self.assertEqual(self.told(("less", high, low)), 0)
                self.assertEqual(self.told(("less", low, low)), 0)
                self.assertEqual(self.told(("same", low, low)), 1)
                self.assertEqual(self.told(("same", low, high)), 0)
                self.assertEqual(self.told(("same", high, low)), 0)
            self.assertEqual(self.told(("less", num(width, 0), num(width, 2 ** width - 1))), 1)
            self.assertEqual(self.told(("less", num(width, 2 ** width - 1), num(width, 0))), 0)

    def test_less_and_same_are_cut_to_width_1(self):
        self.assertEqual(self.told(("not", ("less", ("box", "w"), ("box", "v")))), 1)
        self.assertEqual(self.told(("plus", ("same", num(4, 1), num(4, 1)), num(1, 1))), 0)
        self.assertEqual(self.told(("join", ("same", num(4, 1), num(4, 1)), ("less", num(4, 1), num(4, 1)))), 2)

    def test_pick(self):
        self.assertEqual(self.told(("pick", num(1, 1), ("box", "a"), ("box", "b"))), 5)
        self.assertEqual(self.told(("pick", num(1, 0), ("box", "a"), ("box", "b"))), 12)
        self.assertEqual(self.told(("not", ("pick", num(1, 1), num(4, 2), num(4, 3)))), 13)

    def test_join_and_part(self):
        self.assertEqual(self.told(("join", num(2, 2), num(3, 5))), 21)
        self.assertEqual(self.told(("join", num(3, 5), num(2, 2))), 22)
        self.assertEqual(self.told(("not", ("join", num(1, 1), num(2, 0)))), 3)
        self.assertEqual([self.told(("part", num(4, 10), low, 1)) for low in range(4)], [0, 1, 0, 1])
        self.assertEqual(self.told(("part", num(6, 44), 2, 3)), 3)
        self.assertEqual(self.told(("part", num(6, 44), 0, 6)), 44)
        self.assertEqual(self.told(("not", ("part", num(6, 44), 2, 3))), 4)

    def test_join_and_part_at_width_64(self):
        self.assertEqual(self.told(("join", num(1, 1), ("late", "n"))), 2 ** 63)
        self.assertEqual(self.told(("join", ("box", "n"), num(1, 0))), TOP - 1)
        self.assertEqual(self.told(("join", ("box", "n"), ("box", "c"))), TOP)
        self.assertEqual(self.told(("join", num(32, 1), num(32, 2))), 2 ** 32 + 2)
        self.assertEqual(self.told(("part", ("box", "w"), 0, 64)), TOP)
        self.assertEqual(self.told(("part", ("late", "v"), 63, 1)), 1)
        self.assertEqual(self.told(("part", ("late", "v"), 0, 63)), 0)
        self.assertEqual(self.told(("part", ("door", "x"), 1, 63)), 2 ** 63 - 1)


class NamesTest(WorthCase):
    TERM = ("pick", ("door", "g"), ("plus", ("box", "a"), ("late", "b")), ("door", "d"))

    def test_names_that_are_not_read_may_be_left_out(self):
        widths = ({"a": 4, "b": 4}, {"g": 1, "d": 4})
        self.assertEqual(worth(self.TERM, widths, {"a": 5}, {"b": 3}, {"g": 1, "d": 9}), 8)
        self.assertEqual(worth(num(3, 6), ({}, {}), {}, {}, {}), 6)
        self.assertEqual(worth(("not", ("late", "b")), ({"b": 4}, {}), {}, {"b": 3}, {}), 12)

    def test_names_that_are_not_read_may_have_whatever_words(self):
        early = dict(EARLY, b=-7, c=10 ** 299, zz=99)
        late = dict(LATE, a=-1, w=2 ** 80)
        doors = dict(WORDS, x=-5, zz=4)
        widths = (dict(BOXES, zz=65, c=0), dict(DOORS, x=-1))
        self.assertEqual(worth(self.TERM, widths, early, late, doors), self.told(self.TERM))

    def test_what_is_handed_in_stays(self):
        handed = [(dict(BOXES), dict(DOORS)), dict(EARLY), dict(LATE), dict(WORDS)]
        before = copy.deepcopy(handed)
        worth(self.TERM, *handed)
        self.assertEqual(handed, before)

    def test_nothing_is_kept_from_an_earlier_asking(self):
        early = dict(EARLY)
        self.assertEqual(worth(("box", "a"), (BOXES, DOORS), early, LATE, WORDS), 5)
        early["a"] = 6
        self.assertEqual(worth(("box", "a"), (BOXES, DOORS), early, LATE, WORDS), 6)


class WholeTermsTest(WorthCase):
    def test_the_largest_terms_let_by(self):
        self.assertEqual(self.told(nested(12, ("box", "a"))), 10)
        self.assertEqual(self.told(nested(11, ("box", "a"))), 5)
        self.assertEqual(self.told(tree(99, ("box", "a"))), bits_and_word(tree(99, ("box", "a"))))
        self.assertEqual(self.told(tree(100, ("box", "a"))), bits_and_word(tree(100, ("box", "a"))))

    def test_all_words_of_small_widths(self):
        for width in [1, 2, 3]:
            for left in range(2 ** width):
                for right in range(2 ** width):
                    for form in ["and", "or", "xor", "plus", "minus", "less", "same", "join"]:
                        term = (form, num(width, left), num(width, right))
                        self.assertEqual(self.told(term), bits_and_word(term), term)

    def test_many_terms_both_ways(self):
        chance = random.Random(7)
        for _ in range(3000):
            width = chance.choice([1, 1, 4, 63, 64, chance.randrange(1, 65)])
            term = drawn_term(chance, width, chance.randrange(1, 6), BOXES, DOORS)
            early, late = [{name: chance.randrange(2 ** BOXES[name]) for name in BOXES} for _ in range(2)]
            doors = {name: chance.randrange(2 ** DOORS[name]) for name in DOORS}
            bits = bits_worth(term, (BOXES, DOORS), early, late, doors)
            self.assertEqual(worth(term, (BOXES, DOORS), early, late, doors), word_from(bits), term)
            if size_of(term)[0] <= 100:
                self.assertEqual(width_of(term, BOXES, DOORS), len(bits))


def bits_and_word(term):
    return word_from(bits_worth(term, (BOXES, DOORS), EARLY, LATE, WORDS))


if __name__ == "__main__":
    unittest.main()
