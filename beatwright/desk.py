"""The desk: a text with a works, an order and beats is answered with what each beat takes and leaves behind."""

from beatwright.beats import run
from beatwright.errors import NoText
from beatwright.plans import own_plan, plan
from beatwright.texts import check_length, number_of, parts_of, rows_of
from beatwright.words import check_word
from beatwright.works import made, named_words


# The whole text is read first, then the works is made, then planned, and the words at the doors are looked at last:
# so do the refusals go ahead of one another, in whatever row they stand.
def answer(text):
    rows = rows_of(text)
    place = place_of_order(rows)
    parts = parts_of(rows[:place])
    beats = [numbers_at_doors(row, len(parts[1])) for row in rows[place + 1:]]
    works = made(parts[0], parts[1], parts[2])
    chosen = chosen_plan(works, rows[place][1:])
    told = run(works, chosen, [words_at_doors(works, numbers) for numbers in beats])
    return "\n".join([told_row(works, taken, behind) for taken, behind in told])


def place_of_order(rows):
    for place, row in enumerate(rows):
        if row[0] == "order":
            return place
    raise NoText("no order is told")


def numbers_at_doors(row, many):
    if row[0] != "beat":
        raise NoText("another row than one of a beat stands behind the order")
    check_length(row, 1 + many)
    return [number_of(word) for word in row[1:]]


def chosen_plan(works, names):
    if len(names) == 0:
        return own_plan(works)
    return plan(works, names)


def words_at_doors(works, numbers):
    for door, number in zip(works[1], numbers):
        check_word(door[1], number)
    return named_words(works[1], numbers)


def told_row(works, taken, behind):
    words = taken + [":"]
    for box in works[0]:
        words.extend([box[0], str(behind[box[0]])])
    return " ".join(words)
