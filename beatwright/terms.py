"""Terms: their size, their width, what they read, and their worth."""

from beatwright.errors import NoWidth, TooMany, Unknown, Unlike
from beatwright.words import WIDEST, check_width, check_word, cut

MOST_PARTS = 100
MOST_DEEP = 12

# How many terms a form holds. They stand right behind the form's word, ahead of whatever else it has,
# so that one slice finds them for all forms.
HELD = {
    "num": 0,
    "box": 0,
    "late": 0,
    "door": 0,
    "not": 1,
    "and": 2,
    "or": 2,
    "xor": 2,
    "plus": 2,
    "minus": 2,
    "less": 2,
    "same": 2,
    "pick": 3,
    "join": 2,
    "part": 1,
}


def held_terms(term):
    return term[1:1 + HELD[term[0]]]


def size_of(T):
    parts = 1
    deepest = 0
    for inner in held_terms(T):
        size = size_of(inner)
        parts = parts + size[0]
        deepest = max(deepest, size[1])
    return (parts, deepest + 1)


# The size is looked at ahead of all else: TooMany goes first, wherever another fault stands.
def width_of(T, boxes, doors):
    size = size_of(T)
    if size[0] > MOST_PARTS:
        raise TooMany(f"a term has more than {MOST_PARTS} parts")
    if size[1] > MOST_DEEP:
        raise TooMany(f"a term is deeper than {MOST_DEEP}")
    return checked_width(T, boxes, doors)


# The held terms are gone through first, from left to right: their faults go ahead of the term's own.
def checked_width(term, boxes, doors):
    form = term[0]
    if form == "num":
        return checked_num(term[1], term[2])
    if form == "box" or form == "late":
        return width_named(boxes, term[1])
    if form == "door":
        return width_named(doors, term[1])
    widths = [checked_width(inner, boxes, doors) for inner in held_terms(term)]
    check_own(term, widths)
    return width_over(term, widths)


def checked_num(width, word):
    check_width(width)
    check_word(width, word)
    return width


def width_named(widths, name):
    if name not in widths:
        raise Unknown(f"nothing is called {name!r} here")
    return widths[name]


def check_own(term, widths):
    form = term[0]
    if form == "part":
        check_part(term[2], term[3], widths[0])
    elif form == "join":
        check_join(widths[0] + widths[1])
    elif form == "pick":
        check_like(widths[0], 1)
        check_like(widths[1], widths[2])
    elif HELD[form] == 2:
        check_like(widths[0], widths[1])


def check_part(low, many, width):
    if low < 0 or many < 1 or low + many > width:
        raise NoWidth(f"a width of {width} has no {many} bits from {low} on")


def check_join(width):
    if width > WIDEST:
        raise NoWidth(f"a join has a width of {width}")


def check_like(width, other):
    if width != other:
        raise Unlike(f"a width of {width} stands where one of {other} is asked for")


# The width of a term that holds others, by their widths.
def width_over(term, widths):
    form = term[0]
    if form == "less" or form == "same":
        return 1
    if form == "pick":
        return widths[1]
    if form == "join":
        return widths[0] + widths[1]
    if form == "part":
        return term[3]
    return widths[0]


def reads(T):
    leaves = leaves_of(T)
    return (names_in(leaves, "box"), names_in(leaves, "late"), names_in(leaves, "door"))


def leaves_of(term):
    inner_terms = held_terms(term)
    if len(inner_terms) == 0:
        return [term]
    leaves = []
    for inner in inner_terms:
        leaves.extend(leaves_of(inner))
    return leaves


def names_in(leaves, form):
    return sorted(set([leaf[1] for leaf in leaves if leaf[0] == form]))


def worth(T, widths, early, late, doors):
    return sized_worth(T, widths, (early, late, doors))[1]


# A pair (width, word): what a held term's worth becomes hangs on its width too.
def sized_worth(term, widths, words):
    form = term[0]
    if form == "num":
        return (term[1], term[2])
    if form == "box":
        return (widths[0][term[1]], words[0][term[1]])
    if form == "late":
        return (widths[0][term[1]], words[1][term[1]])
    if form == "door":
        return (widths[1][term[1]], words[2][term[1]])
    pairs = [sized_worth(inner, widths, words) for inner in held_terms(term)]
    inner_widths = [pair[0] for pair in pairs]
    inner_words = [pair[1] for pair in pairs]
    return (width_over(term, inner_widths), word_over(term, inner_widths, inner_words))


def word_over(term, widths, words):
    form = term[0]
    if form == "not":
        return cut(widths[0], ~words[0])
    if form == "part":
        return cut(term[3], words[0] >> term[2])
    if form == "pick":
        return words[1] if words[0] == 1 else words[2]
    if form == "join":
        return (words[0] << widths[1]) | words[1]
    return word_of_two(form, widths[0], words[0], words[1])


# The forms of two terms of one width.
def word_of_two(form, width, word, other):
    if form == "and":
        return word & other
    if form == "or":
        return word | other
    if form == "xor":
        return word ^ other
    if form == "plus":
        return cut(width, word + other)
    if form == "minus":
        return cut(width, word - other)
    if form == "less":
        return 1 if word < other else 0
    return 1 if word == other else 0
