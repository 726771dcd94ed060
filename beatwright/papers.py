"""Papers: a row of cubes that shows that the guards of two rules never both hold."""

from beatwright.dims import marks_of, span_of, unknown_span, with_mark
from beatwright.terms import reads
from beatwright.works import rule_of, widths_of

MOST_CUBES = 64


def asked_bits(works, one, other):
    widths = widths_of(works)
    mine = reads(rule_of(works, one)[1])
    yours = reads(rule_of(works, other)[1])
    row = bits_named("box", shared(mine[0], yours[0]), widths[0])
    row.extend(bits_named("door", shared(mine[2], yours[2]), widths[1]))
    row.extend(bits_named("box", unshared(mine[0], yours[0]), widths[0]))
    row.extend(bits_named("door", unshared(mine[2], yours[2]), widths[1]))
    row.extend(bits_named("one", mine[1], widths[0]))
    row.extend(bits_named("other", yours[1], widths[0]))
    return row


def shared(names, others):
    return sorted(set(names) & set(others))


def unshared(names, others):
    return sorted(set(names) ^ set(others))


def bits_named(sort, names, widths):
    bits = []
    for name in names:
        bits.extend([(sort, name, place) for place in range(widths[name] - 1, -1, -1)])
    return bits


# The known bits, a beginning of the row. The spans go along with each step: told anew from all known bits,
# they would make a long row slow.
class Known:
    def __init__(self, row):
        self.row = row
        self.marks = []
        self.spans = {"box": {}, "door": {}, "one": {}, "other": {}}
        for sort, name, place in row:
            # Of each name the highest place comes first, and so tells its width.
            self.spans[sort].setdefault(name, unknown_span(place + 1))

    def learn(self, mark):
        self.put(len(self.marks), mark)
        self.marks.append(mark)

    def forget(self):
        self.marks.pop()
        self.put(len(self.marks), 2)

    # So many bits are known now; those that get known are 0.
    def know(self, many):
        while len(self.marks) < many:
            self.learn(0)
        while len(self.marks) > many:
            self.forget()

    # On, bit by bit, to where the guards settle it. What is settled stays so with more bits known: so the place is
    # looked for by longer and longer steps, and then by halves, since each look at the guards takes long.
    def go_on(self, guards):
        begin = len(self.marks)
        low = begin
        high = begin
        while not self.settled_at(high, guards):
            low = high + 1
            high = min(begin + 2 * (low - begin), len(self.row))
        while low < high:
            middle = (low + high) // 2
            if self.settled_at(middle, guards):
                high = middle
            else:
                low = middle + 1
        self.know(high)

    def settled_at(self, many, guards):
        self.know(many)
        held = self.guard_marks(guards)
        return 0 in held or held == (1, 1)

    def put(self, number, mark):
        bit = self.row[number]
        named = self.spans[bit[0]]
        named[bit[1]] = with_mark(named[bit[1]], bit[2], mark)

    # On to what no cube has met yet; False where nothing is left.
    def turn(self):
        while len(self.marks) > 0 and self.marks[-1] == 1:
            self.forget()
        if len(self.marks) == 0:
            return False
        self.forget()
        self.learn(1)
        return True

    def guard_marks(self, guards):
        return (self.guard_mark(guards[0], "one"), self.guard_mark(guards[1], "other"))

    def guard_mark(self, guard, sort):
        return marks_of(span_of(guard, (self.spans["box"], self.spans[sort], self.spans["door"])))[0]

    def both_words(self):
        return ("both", self.low_words("box"), self.low_words("door"), self.low_words("one"), self.low_words("other"))

    def low_words(self, sort):
        named = self.spans[sort]
        return dict([(name, named[name][1]) for name in named])


def never_both(works, one, other):
    guards = (rule_of(works, one)[1], rule_of(works, other)[1])
    known = Known(asked_bits(works, one, other))
    cubes = []
    while True:
        known.go_on(guards)
        held = known.guard_marks(guards)
        if held == (1, 1):
            return known.both_words()
        cubes.append((tuple(known.marks), held.index(0)))
        # Too many cubes go ahead of the end of the row.
        if len(cubes) > MOST_CUBES:
            return ("unsure",)
        if not known.turn():
            return ("never", cubes)
