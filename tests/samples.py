"""Terms, widths and signs that several tests share."""

LETTERS = "abcdefghijklmnopqrstuvwxyz"
YES = ("num", 1, 1)
NO = ("num", 1, 0)

BOXES = {"bit": 1, "two": 2, "four": 4, "wide": 64, "most": 63}
DOORS = {"flag": 1, "pair": 2, "gate": 4}

FORMS_OF_TWO = ["and", "or", "xor", "plus", "minus", "less", "same"]

# A term of each of the fifteen forms, with its parts, how deep it is, and its width.
EACH_FORM = [
    (("num", 5, 17), 1, 1, 5),
    (("box", "four"), 1, 1, 4),
    (("late", "two"), 1, 1, 2),
    (("door", "gate"), 1, 1, 4),
    (("not", ("box", "four")), 2, 2, 4),
    (("and", ("box", "four"), ("door", "gate")), 3, 2, 4),
    (("or", ("box", "four"), ("late", "four")), 3, 2, 4),
    (("xor", ("num", 2, 3), ("late", "two")), 3, 2, 2),
    (("plus", ("box", "wide"), ("late", "wide")), 3, 2, 64),
    (("minus", ("door", "pair"), ("box", "two")), 3, 2, 2),
    (("less", ("box", "four"), ("num", 4, 9)), 3, 2, 1),
    (("same", ("box", "wide"), ("num", 64, 9)), 3, 2, 1),
    (("pick", ("door", "flag"), ("box", "four"), ("num", 4, 0)), 4, 2, 4),
    (("join", ("box", "four"), ("late", "two")), 3, 2, 6),
    (("part", ("box", "wide"), 3, 7), 2, 2, 7),
]

# Terms that are refused, by the class that is told.
FAULTS = {
    "Unknown": ("box", "nobody"),
    "NoWidth": ("num", 0, 0),
    "NoWord": ("num", 2, 4),
    "Unlike": ("and", ("num", 1, 0), ("num", 2, 0)),
}


def nested(deep, leaf=("num", 1, 0)):
    """A term that is so deep and has as many parts."""
    term = leaf
    for _ in range(deep - 1):
        term = ("not", term)
    return term


def tree(parts, leaf=("num", 1, 0)):
    """A term of so many parts, no deeper than it must be; its leaves are one and the same term."""
    if parts == 1:
        return leaf
    if parts == 2:
        return ("not", leaf)
    left = (parts - 1) // 2
    return ("xor", tree(left, leaf), tree(parts - 1 - left, leaf))


def drawn_term(chance, width, deep, boxes, doors):
    """Some term of a width, of boxes and doors of given widths, numbers and larger terms."""
    if deep == 1 or chance.randrange(5) == 0:
        leaves = [("num", width, chance.randrange(2 ** width)), ("num", width, chance.choice([0, 2 ** width - 1]))]
        leaves += [(form, name) for form in ("box", "late") for name in boxes if boxes[name] == width]
        leaves += [("door", name) for name in doors if doors[name] == width]
        return chance.choice(leaves)

    def drawn(inner_width):
        return drawn_term(chance, inner_width, deep - 1, boxes, doors)

    widths = sorted(set(boxes.values()) | set(doors.values()))
    forms = ["not", "and", "or", "xor", "plus", "minus", "pick", "part"]
    form = chance.choice(forms + (["join"] if width > 1 else ["less", "same"]))
    if form == "not":
        return (form, drawn(width))
    if form == "pick":
        return (form, drawn(1), drawn(width), drawn(width))
    if form == "join":
        low = chance.randrange(1, width)
        return (form, drawn(width - low), drawn(low))
    if form == "part":
        whole = chance.choice([wider for wider in widths if wider >= width] + [width])
        return (form, drawn(whole), chance.randrange(whole - width + 1), width)
    if form in ("less", "same"):
        width = chance.choice(widths)
    return (form, drawn(width), drawn(width))
