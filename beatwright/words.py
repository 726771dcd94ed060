"""Widths, words and their bits, the lowest bit first."""

from beatwright.errors import NoWidth, NoWord

WIDEST = 64


def is_width(number):
    return 1 <= number <= WIDEST


# The length in bits is asked, not the count of words, so that a number that is no width does no harm here.
def fits(width, number):
    return number >= 0 and number.bit_length() <= width


def check_width(number):
    if not is_width(number):
        raise NoWidth(f"{number} is no width")


def check_word(width, number):
    if not fits(width, number):
        raise NoWord(f"{number} is no word of width {width}")


# A shift by less than nought would fail, and no width is refused here.
def cut(width, number):
    return number % (1 << max(width, 0))


def bits_of(width, word):
    return [(word >> place) & 1 for place in range(width)]


def word_of(bits):
    word = 0
    for bit in reversed(bits):
        word = word * 2 + bit
    return word
