"""Terms, works, widths and signs that several tests share."""

import itertools

from beatwright.works import made

LETTERS = "abcdefghijklmnopqrstuvwxyz"
YES = ("num", 1, 1)
NO = ("num", 1, 0)

BOXES = {"bit": 1, "two": 2, "four": 4, "wide": 64, "most": 63}
DOORS = {"flag": 1, "pair": 2, "gate": 4}

FEW_BITS = ({"a": 1, "b": 2, "c": 1, "d": 2}, {"go": 1, "by": 2})
MANY_BITS = ({"a": 1, "b": 64, "c": 17, "d": 64}, {"go": 1, "by": 64})

STATION_WORDS = ("plus", "minus", "xor", "and", "or")

FORMS_OF_TWO = ["and", "or", "xor", "plus", "minus", "less", "same"]

# A term of each of the fifteen forms, with its parts, how deep it is, and its width.
EACH_FORM = [
    (("num", 5, 17), 1, 1, 5),
    (("box", "four"), 1, 1, 4),
    (("late", "two"), 1, 1, 2),
    (("door", "gate"), 1, 1, 4),
    (("not", ("box", "four")), 2, 2, 4),
    (("and", ("box", "four"), ("door", "gate")), 3, 2, 4),
    (("or", ("box", "four"), ("late", "four")), 3, 2, 4),
    (("xor", ("num", 2, 3), ("late", "two")), 3, 2, 2),
    (("plus", ("box", "wide"), ("late", "wide")), 3, 2, 64),
    (("minus", ("door", "pair"), ("box", "two")), 3, 2, 2),
    (("less", ("box", "four"), ("num", 4, 9)), 3, 2, 1),
    (("same", ("box", "wide"), ("num", 64, 9)), 3, 2, 1),
    (("pick", ("door", "flag"), ("box", "four"), ("num", 4, 0)), 4, 2, 4),
    (("join", ("box", "four"), ("late", "two")), 3, 2, 6),
    (("part", ("box", "wide"), 3, 7), 2, 2, 7),
]

# Terms that are refused, by the class that is told.
FAULTS = {
    "Unknown": ("box", "nobody"),
    "NoWidth": ("num", 0, 0),
    "NoWord": ("num", 2, 4),
    "Unlike": ("and", ("num", 1, 0), ("num", 2, 0)),
}


def nested(deep, leaf=("num", 1, 0)):
    """A term that is so deep and has as many parts."""
    term = leaf
    for _ in range(deep - 1):
        term = ("not", term)
    return term


def tree(parts, leaf=("num", 1, 0)):
    """A term of so many parts, no deeper than it must be; its leaves are one and the same term."""
    if parts == 1:
        return leaf
    if parts == 2:
        return ("not", leaf)
    left = (parts - 1) // 2
    return ("xor", tree(left, leaf), tree(parts - 1 - left, leaf))


def drawn_term(chance, width, deep, boxes, doors):
    """Some term of a width, of boxes and doors of given widths, numbers and larger terms."""
    if deep == 1 or chance.randrange(5) == 0:
        leaves = [("num", width, chance.randrange(2 ** width)), ("num", width, chance.choice([0, 2 ** width - 1]))]
        leaves += [(form, name) for form in ("box", "late") for name in boxes if boxes[name] == width]
        leaves += [("door", name) for name in doors if doors[name] == width]
        return chance.choice(leaves)

    def drawn(inner_width):
        return drawn_term(chance, inner_width, deep - 1, boxes, doors)

    widths = sorted(set(boxes.values()) | set(doors.values()))
    forms = ["not", "and", "or", "xor", "plus", "minus", "pick", "part"]
    form = chance.choice(forms + (["join"] if width > 1 else ["less", "same"]))
    if form == "not":
        return (form, drawn(width))
    if form == "pick":
        return (form, drawn(1), drawn(width), drawn(width))
    if form == "join":
        low = chance.randrange(1, width)
        return (form, drawn(width - low), drawn(low))
    if form == "part":
        whole = chance.choice([wider for wider in widths if wider >= width] + [width])
        return (form, drawn(whole), chance.randrange(whole - width + 1), width)
    if form in ("less", "same"):
        width = chance.choice(widths)
    return (form, drawn(width), drawn(width))


def drawn_works(chance, rules, deep=3, widths=FEW_BITS):
    """Some works of so many rules, of boxes and doors of given widths."""
    boxes, doors = widths

    def drawn_rule(number):
        guard = drawn_term(chance, 1, chance.randrange(1, deep + 1), boxes, doors)
        names = chance.sample(sorted(boxes), chance.randrange(3))
        writes = [(name, drawn_term(chance, boxes[name], chance.randrange(1, deep + 1), boxes, doors))
                  for name in names]
        return ("rule" + LETTERS[number], guard, writes)

    numbers = chance.sample(range(8), rules)
    return made([(name, width, chance.randrange(2 ** width)) for name, width in boxes.items()],
                sorted(doors.items()), [drawn_rule(number) for number in numbers])


def drawn_words(chance, pairs):
    """Some word for each pair of a name and a width, the pairs of a dict."""
    return {name: chance.randrange(2 ** width) for name, width in pairs.items()}


def names_of(works):
    """The rules' names, in their row."""
    return [rule[0] for rule in works[2]]


def row_faults(rows):
    """What keeps a list of rows from being those of a net."""
    told = [] if rows[:2] == [("no",), ("yes",)] else ["rows 0 and 1"]
    for place, row in enumerate(rows[2:], 2):
        gate = len(row) == 3 and row[0] in ("and", "xor") and 0 <= row[1] < row[2] < place
        bit = len(row) == 4 and row[0] == "in" and [type(part) for part in row[1:]] == [str, str, int] and row[3] >= 0
        if not gate and not bit:
            told.append(f"row {place}: {row}")
    return told + (["two rows are alike"] if len(set(rows)) < len(rows) else [])


def ins_of(rows):
    """The bits that rows ask for, as (sort, name, place)."""
    return [row[1:] for row in rows if row[0] == "in"]


def open_works(*rules):
    """Rules (name, boxes that it writes, reads early, reads late), whose guards hold whatever they read."""
    made_rules = []
    for name, writes, early, *late in rules:
        guard = YES
        for leaf in [("box", box) for box in early] + [("late", box) for boxes in late for box in boxes]:
            guard = ("or", guard, ("part", leaf, 0, 1))
        made_rules.append((name, guard, [(box, ("num", 2, 1)) for box in writes]))
    return made([(letter, 2, 0) for letter in "abcdemnpq"], [], made_rules)


def all_sorts(lengths, sorts=("calm", "slide", "short")):
    """Every mix of sorts of so many pipes, for each of some lengths."""
    return [list(mix) for many in lengths for mix in itertools.product(sorts, repeat=many)]


def drawn_stations(chance, width, many):
    """So many stations of a line of a width."""
    return [(chance.choice(STATION_WORDS), chance.randrange(2 ** width)) for _ in range(many)]
