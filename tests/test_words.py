"""Point 4: widths, words and bits; point 1: what is handed in stays, what is told is the asker's own."""

import random
import unittest

from beatwright.words import bits_of, cut, fits, is_width, word_of

WIDTHS = range(1, 65)


def samples(width, count=12):
    chance = random.Random(width)
    edges = [0, 1, 2 ** width - 1, 2 ** (width - 1)]
    return edges + [chance.randrange(2 ** width) for _ in range(count)]


class WidthTest(unittest.TestCase):
    def test_widths_are_1_to_64(self):
        for number in WIDTHS:
            self.assertIs(is_width(number), True, number)

    def test_no_others_are(self):
        for number in [0, 65, 66, 128, -1, -2, -64, 2 ** 64, -(2 ** 64), 10 ** 299, -(10 ** 299)]:
            self.assertIs(is_width(number), False, number)


class FitsTest(unittest.TestCase):
    def test_words_of_each_width(self):
        for width in WIDTHS:
            for number in samples(width):
                self.assertIs(fits(width, number), True, (width, number))

    def test_what_is_none(self):
        for width in WIDTHS:
            for number in [2 ** width, 2 ** width + 1, 2 ** 65, 10 ** 299, -1, -(2 ** width), -(10 ** 299)]:
                self.assertIs(fits(width, number), False, (width, number))

    def test_all_of_a_small_width(self):
        self.assertEqual([n for n in range(-20, 20) if fits(3, n)], list(range(8)))

    def test_what_lies_beyond_the_widths_is_not_refused(self):
        for width in [-1, 0, 65]:
            self.assertIsInstance(fits(width, 0), bool)
            self.assertIsInstance(cut(width, 5), int)
            self.assertIsInstance(bits_of(width, 0), list)


class CutTest(unittest.TestCase):
    def test_words_stay(self):
        for width in WIDTHS:
            for number in samples(width):
                self.assertEqual(cut(width, number), number)

    def test_edges_of_each_width(self):
        for width in WIDTHS:
            self.assertEqual(cut(width, 2 ** width), 0)
            self.assertEqual(cut(width, 2 ** width + 1), 1)
            self.assertEqual(cut(width, -1), 2 ** width - 1)
            self.assertEqual(cut(width, -(2 ** width)), 0)
            self.assertEqual(cut(width, -(2 ** width) - 1), 2 ** width - 1)

    def test_far_above_and_far_below(self):
        for width in WIDTHS:
            for number in [10 ** 299, -(10 ** 299), 3 ** 500, -(3 ** 500)]:
                word = cut(width, number)
                self.assertTrue(0 <= word < 2 ** width)
                self.assertEqual((number - word) % 2 ** width, 0)

    def test_small_ones_by_hand(self):
        self.assertEqual([cut(2, n) for n in range(-5, 6)], [3, 0, 1, 2, 3, 0, 1, 2, 3, 0, 1])


class BitsTest(unittest.TestCase):
    def test_the_lowest_bit_comes_first(self):
        self.assertEqual(bits_of(4, 1), [1, 0, 0, 0])
        self.assertEqual(bits_of(4, 8), [0, 0, 0, 1])
        self.assertEqual(bits_of(5, 6), [0, 1, 1, 0, 0])
        self.assertEqual(word_of([0, 1, 1, 0, 0]), 6)
        self.assertEqual(word_of([0, 0, 0, 1]), 8)
        self.assertEqual(bits_of(64, 2 ** 63), [0] * 63 + [1])

    def test_there_and_back(self):
        for width in WIDTHS:
            for word in samples(width):
                bits = bits_of(width, word)
                self.assertEqual(len(bits), width)
                self.assertEqual(bits, [int(sign) for sign in reversed(bin(word)[2:].zfill(width))])
                self.assertEqual(word_of(bits), word)

    def test_bits_are_whole_numbers(self):
        for bit in bits_of(8, 165):
            self.assertIs(type(bit), int)
        self.assertIs(type(word_of([1])), int)
        self.assertIs(type(cut(1, 1)), int)

    def test_no_bits_are_nought(self):
        self.assertEqual(word_of([]), 0)
        self.assertIs(type(word_of([])), int)

    def test_up_to_64_bits(self):
        for many in range(65):
            self.assertEqual(word_of([1] * many), 2 ** many - 1)
            self.assertEqual(word_of([0] * many), 0)

    def test_a_list_handed_in_stays(self):
        bits = [1, 0, 1, 1]
        word_of(bits)
        self.assertEqual(bits, [1, 0, 1, 1])

    def test_a_told_list_is_the_askers_own(self):
        told = bits_of(4, 5)
        told[0] = 7
        told.append(9)
        self.assertEqual(bits_of(4, 5), [1, 0, 1, 0])
        self.assertIsNot(bits_of(4, 5), bits_of(4, 5))


if __name__ == "__main__":
    unittest.main()
