"""Texts: a works written as rows of words, and read again."""

from beatwright.errors import NoText
from beatwright.terms import HELD, held_terms
from beatwright.works import made

LONGEST_NUMBER = 20


def shown(works):
    rows = [["box", box[0], str(box[1]), str(box[2])] for box in works[0]]
    rows.extend([["door", door[0], str(door[1])] for door in works[1]])
    for name, guard, writes in works[2]:
        rows.append(["rule", name] + words_of(guard))
        rows.extend([["set", box] + words_of(term) for box, term in writes])
    return "\n".join([" ".join(row) for row in rows])


# A form's own names and numbers stand behind the terms that it holds, in a text ahead of them.
def words_of(term):
    words = [term[0]] + [str(own) for own in term[1 + HELD[term[0]]:]]
    for inner in held_terms(term):
        words.extend(words_of(inner))
    return words


# The whole text is read ahead of making the works: NoText goes ahead of all other refusals.
def read(text):
    parts = parts_of(rows_of(text))
    return made(parts[0], parts[1], parts[2])


# The rows of a text, as lists of words. Wherever a word is missing between blanks or line ends, an empty one is found.
def rows_of(text):
    if text == "":
        return []
    rows = [row.split(" ") for row in text.split("\n")]
    for row in rows:
        if "" in row:
            raise NoText("a row has no word, or a blank too many")
    return rows


# The boxes, doors and rules that rows write, as lists for "made".
def parts_of(rows):
    boxes = []
    doors = []
    rules = []
    for row in rows:
        word = row[0]
        if word == "box" and len(doors) + len(rules) == 0:
            boxes.append(box_of(row))
        elif word == "door" and len(rules) == 0:
            doors.append(door_of(row))
        elif word == "rule":
            rules.append(named_term(row) + ([],))
        elif word == "set" and len(rules) > 0:
            rules[-1][2].append(named_term(row))
        else:
            raise NoText(f"{word!r} begins a row where none such is asked for")
    return (boxes, doors, rules)


def box_of(row):
    check_length(row, 4)
    return (row[1], number_of(row[2]), number_of(row[3]))


def door_of(row):
    check_length(row, 3)
    return (row[1], number_of(row[2]))


def check_length(row, many):
    if len(row) != many:
        raise NoText(f"a row has another number of words than {many}")


def number_of(word):
    if not is_number(word):
        raise NoText(f"{word!r} is no number")
    return int(word)


def is_number(word):
    if len(word) > LONGEST_NUMBER or not all(["0" <= sign <= "9" for sign in word]):
        return False
    return word == "0" or word[0] != "0"


# The pair behind the word of a row: a name and a term that goes on to the row's end.
def named_term(row):
    name = word_at(row, 1)
    told = term_at(row, 2)
    check_length(row, told[1])
    return (name, told[0])


def word_at(row, place):
    if place >= len(row):
        raise NoText("a row has a word too few")
    return row[place]


# The term that begins at a place of a row, and the place behind it.
def term_at(row, place):
    form = word_at(row, place)
    if form not in HELD:
        raise NoText(f"{form!r} is no form of a term")
    own = own_parts(form, row, place + 1)
    behind = place + 1 + len(own)
    inner_terms = []
    while len(inner_terms) < HELD[form]:
        told = term_at(row, behind)
        inner_terms.append(told[0])
        behind = told[1]
    return (tuple([form] + inner_terms + own), behind)


def own_parts(form, row, place):
    if form == "box" or form == "late" or form == "door":
        return [word_at(row, place)]
    if form == "num" or form == "part":
        return [number_of(word_at(row, place)), number_of(word_at(row, place + 1))]
    return []
