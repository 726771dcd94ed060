"""Half-known words: what of a term's worth is known where not every bit that it reads is.

Within, a half-known word is kept as a span (width, low, high): low is the word with 0 for each bit that is not
known, high the one with 1. So one step on words does all their marks at once.
"""

from beatwright.terms import held_terms, reads
from beatwright.words import bits_of, cut, word_of


def dim(T, early, late, doors):
    names = reads(T)
    spans = (spans_named(names[0], early), spans_named(names[1], late), spans_named(names[2], doors))
    return marks_of(span_of(T, spans))


# Only the names that are read: whatever stands under another one is not looked at.
def spans_named(names, words):
    return dict([(name, span_from(words[name])) for name in names])


def span_from(marks):
    low = word_of([1 if mark == 1 else 0 for mark in marks])
    high = word_of([0 if mark == 0 else 1 for mark in marks])
    return (len(marks), low, high)


def marks_of(span):
    lows = bits_of(span[0], span[1])
    highs = bits_of(span[0], span[2])
    return [low if low == high else 2 for low, high in zip(lows, highs)]


def unknown_span(width):
    return (width, 0, cut(width, -1))


def with_mark(span, place, mark):
    bit = 1 << place
    low = span[1] | bit if mark == 1 else span[1] & ~bit
    high = span[2] & ~bit if mark == 0 else span[2] | bit
    return (span[0], low, high)


# The spans are three dicts by names: of boxes read early, of boxes read late, and of doors.
def span_of(term, spans):
    form = term[0]
    if form == "num":
        return (term[1], term[2], term[2])
    if form == "box":
        return spans[0][term[1]]
    if form == "late":
        return spans[1][term[1]]
    if form == "door":
        return spans[2][term[1]]
    return span_over(term, [span_of(inner, spans) for inner in held_terms(term)])


def span_over(term, held):
    form = term[0]
    if form == "not":
        return not_span(held[0])
    if form == "part":
        return part_span(held[0], term[2], term[3])
    if form == "pick":
        return pick_span(held[0], held[1], held[2])
    if form == "join":
        return join_span(held[0], held[1])
    return span_of_two(form, held[0], held[1])


# The forms of two terms of one width.
def span_of_two(form, one, other):
    if form == "and":
        return (one[0], one[1] & other[1], one[2] & other[2])
    if form == "or":
        return (one[0], one[1] | other[1], one[2] | other[2])
    if form == "xor":
        return doubted(one[0], one[1] ^ other[1], doubt(one) | doubt(other))
    if form == "plus":
        return sum_span(one, other, 0)
    if form == "minus":
        return sum_span(one, not_span(other), 1)
    if form == "less":
        return less_span(one, other)
    return same_span(one, other)


# The bits that are not known.
def doubt(span):
    return span[1] ^ span[2]


def doubted(width, word, unknown):
    return (width, word & ~unknown, word | unknown)


def not_span(span):
    return (span[0], cut(span[0], ~span[2]), cut(span[0], ~span[1]))


# A carry is known as 1 where the lows alone bring it about, as 0 where not even the highs do: so it is not known
# where the carries of the two sums differ. A sum without its two words' bits (xor) is its carries.
def sum_span(one, other, carry):
    low = one[1] + other[1] + carry
    high = one[2] + other[2] + carry
    low_carries = low ^ one[1] ^ other[1]
    high_carries = high ^ one[2] ^ other[2]
    unknown = doubt(one) | doubt(other) | (low_carries ^ high_carries)
    return doubted(one[0], cut(one[0], low), cut(one[0], unknown))


# Nothing is carried out of T plus "not" U plus 1 just where T's word is below U's. So the carry is known as 0 where
# T's high is below U's low, and as 1 where T's low is not below U's high.
def less_span(one, other):
    return (1, 1 if one[2] < other[1] else 0, 1 if one[1] < other[2] else 0)


def same_span(one, other):
    unknown = doubt(one) | doubt(other)
    if (one[1] ^ other[1]) & ~unknown != 0:
        return (1, 0, 0)
    return (1, 1 if unknown == 0 else 0, 1)


def pick_span(chosen, one, other):
    if chosen[1] == 1:
        return one
    if chosen[2] == 0:
        return other
    return (one[0], one[1] & other[1], one[2] | other[2])


def join_span(one, other):
    return (one[0] + other[0], (one[1] << other[0]) | other[1], (one[2] << other[0]) | other[2])


def part_span(span, low, many):
    return (many, cut(many, span[1] >> low), cut(many, span[2] >> low))
