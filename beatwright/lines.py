"""Lines: works of stations with pipes between them, in which things go from the door to "shown"."""

from beatwright.errors import NoLine
from beatwright.words import check_width, check_word
from beatwright.works import made

SORTS = ("calm", "slide", "short")
STATION_WORDS = ("plus", "minus", "xor", "and", "or")
MOST_PIPES = 5
LETTERS = "abcdef"


def line(width, sorts, stations):
    check_width(width)
    check_sorts(sorts)
    check_stations(width, stations, len(sorts) + 1)
    boxes = []
    for pipe in range(len(sorts)):
        boxes.extend([(full_of(pipe), 1, 0), (item_of(pipe), width, 0)])
    boxes.append(("shown", width, 0))
    rules = [station_rule(width, sorts, stations, place) for place in range(len(stations))]
    return made(boxes, [("has", 1), ("thing", width)], rules)


def check_sorts(sorts):
    if not 1 <= len(sorts) <= MOST_PIPES:
        raise NoLine(f"a line has 1 to {MOST_PIPES} pipes")
    for sort in sorts:
        if sort not in SORTS:
            raise NoLine(f"{sort!r} is no sort of a pipe")


# How many there are is looked at ahead of what each of them is.
def check_stations(width, stations, many):
    if len(stations) != many:
        raise NoLine(f"a line of {many} stations is asked for")
    for word, number in stations:
        if word not in STATION_WORDS:
            raise NoLine(f"{word!r} is no word of a station")
        check_word(width, number)


def full_of(pipe):
    return "full" + LETTERS[pipe]


def item_of(pipe):
    return "item" + LETTERS[pipe]


# A station has a pipe on either side; the first one has the doors in the place of the pipe from which things come,
# the last one "shown" in the place of the pipe into which they go.
def station_rule(width, sorts, stations, place):
    guard = can_come(sorts, place)
    worked = (stations[place][0], thing_for(sorts, place), ("num", width, stations[place][1]))
    writes = []
    if place > 0:
        writes.append((full_of(place - 1), ("num", 1, 0)))
    if place < len(sorts):
        guard = ("and", guard, can_enter(sorts, place))
        writes.extend([(full_of(place), ("num", 1, 1)), (item_of(place), worked)])
    else:
        writes.append(("shown", worked))
    return ("work" + LETTERS[place], guard, writes)


# Whether there is a thing for a station: at the door, or in the pipe that can be left.
def can_come(sorts, place):
    if place == 0:
        return ("door", "has")
    return (read_of_left(sorts, place - 1), full_of(place - 1))


def thing_for(sorts, place):
    if place == 0:
        return ("door", "thing")
    return (read_of_left(sorts, place - 1), item_of(place - 1))


# What a short pipe got within the beat can leave it in that same beat.
def read_of_left(sorts, pipe):
    return "late" if sorts[pipe] == "short" else "box"


# A slide pipe that is left within the beat can be entered in that same beat.
def can_enter(sorts, pipe):
    return ("not", ("late" if sorts[pipe] == "slide" else "box", full_of(pipe)))
