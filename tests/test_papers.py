"""Points 13, 14 and 15: the bits of two guards, and the cubes that show that they never both hold."""

import itertools
import random
import unittest

from beatwright.papers import asked_bits, never_both
from beatwright.terms import reads, worth
from beatwright.works import made, rule_of, widths_of
from tests.samples import NO, YES, drawn_term
from tests.test_dims import marks_by_point

BOXES = [("a", 1, 0), ("b", 2, 0), ("c", 3, 0), ("x", 6, 0), ("z", 1, 0), ("w", 64, 0)]
DOORS = [("go", 1), ("by", 2), ("at", 1)]


def works_of(one, other, boxes=BOXES, doors=DOORS):
    """A works of two rules that have these guards; its third rule and its write are not to be looked at."""
    late = ("late", boxes[0][0])
    third = ("third", ("same", late, late), [])
    return made(boxes, doors, [third, ("two", other, []), ("first", one, [(boxes[0][0], late)])])


def bits(one, other, boxes=BOXES, doors=DOORS):
    return asked_bits(works_of(one, other, boxes, doors), "first", "two")


def answer(one, other, boxes=BOXES, doors=DOORS):
    return never_both(works_of(one, other, boxes, doors), "first", "two")


def both(*terms):
    """A term of width 1 that reads all of these, whatever their widths."""
    told = YES
    for term in terms:
        told = ("and", told, ("same", term, term))
    return told


def is_num(term, width, word):
    return ("same", term, ("num", width, word))


def parity(name, width):
    """1 where an odd number of a box's bits is 1: not known before the last bit is."""
    told = ("part", ("box", name), 0, 1)
    for place in range(1, width):
        told = ("xor", told, ("part", ("box", name), place, 1))
    return told


class BitsTest(unittest.TestCase):
    def test_no_bits(self):
        self.assertEqual(bits(YES, NO), [])

    def test_one_box_of_all_widths(self):
        for width in [1, 2, 3, 64]:
            boxes = [("q", width, 0)]
            asked = [("box", "q", place) for place in reversed(range(width))]
            guard = is_num(("box", "q"), width, 0)
            self.assertEqual(bits(guard, guard, boxes), asked)
            self.assertEqual(bits(guard, YES, boxes), asked)
            self.assertEqual(bits(YES, guard, boxes), asked)

    def test_it_is_a_list_of_tuples(self):
        told = bits(("box", "a"), ("door", "go"))
        self.assertIs(type(told), list)
        self.assertEqual([type(bit) for bit in told], [tuple, tuple])
        self.assertEqual([type(part) for part in told[0]], [str, str, int])

    def test_all_six(self):
        one = both(("late", "b"), ("door", "go"), ("box", "z"), ("box", "b"), ("door", "by"), ("late", "a"))
        other = both(("box", "z"), ("late", "z"), ("door", "at"), ("box", "c"), ("door", "by"), ("late", "b"))
        self.assertEqual(bits(one, other), [
            ("box", "z", 0),
            ("door", "by", 1), ("door", "by", 0),
            ("box", "b", 1), ("box", "b", 0), ("box", "c", 2), ("box", "c", 1), ("box", "c", 0),
            ("door", "at", 0), ("door", "go", 0),
            ("one", "a", 0), ("one", "b", 1), ("one", "b", 0),
            ("other", "b", 1), ("other", "b", 0), ("other", "z", 0),
        ])
        self.assertEqual(bits(other, one), [
            ("box", "z", 0),
            ("door", "by", 1), ("door", "by", 0),
            ("box", "b", 1), ("box", "b", 0), ("box", "c", 2), ("box", "c", 1), ("box", "c", 0),
            ("door", "at", 0), ("door", "go", 0),
            ("one", "b", 1), ("one", "b", 0), ("one", "z", 0),
            ("other", "a", 0), ("other", "b", 1), ("other", "b", 0),
        ])

    def test_names_rise_whatever_the_order_of_the_works(self):
        boxes = [("zz", 1, 0), ("m", 1, 0), ("aa", 1, 0), ("a", 1, 0)]
        guard = both(*[("box", name) for name in ["m", "zz", "a", "aa"]])
        names = ["a", "aa", "m", "zz"]
        self.assertEqual(bits(guard, guard, boxes), [("box", name, 0) for name in names])
        self.assertEqual(bits(guard, YES, boxes), [("box", name, 0) for name in names])
        late = both(*[("late", name) for name in ["m", "zz", "a", "aa"]])
        asked = [(sort, name, 0) for sort in ("one", "other") for name in names]
        self.assertEqual(bits(late, late, boxes), asked)

    def test_what_is_shared_goes_ahead_of_lower_names(self):
        one, other = both(("box", "a"), ("box", "z")), both(("box", "z"), ("door", "at"))
        self.assertEqual(bits(one, other), [("box", "z", 0), ("box", "a", 0), ("door", "at", 0)])
        one, other = both(("door", "at"), ("door", "go")), both(("door", "go"), ("box", "a"))
        self.assertEqual(bits(one, other), [("door", "go", 0), ("box", "a", 0), ("door", "at", 0)])

    def test_read_late_by_both_stands_twice(self):
        self.assertEqual(bits(("late", "a"), ("late", "a")), [("one", "a", 0), ("other", "a", 0)])

    def test_read_early_and_late_stands_for_both(self):
        one = both(("box", "a"), ("late", "a"))
        self.assertEqual(bits(one, YES), [("box", "a", 0), ("one", "a", 0)])
        self.assertEqual(bits(YES, one), [("box", "a", 0), ("other", "a", 0)])
        self.assertEqual(bits(one, one), [("box", "a", 0), ("one", "a", 0), ("other", "a", 0)])
        self.assertEqual(bits(("late", "a"), ("box", "a")), [("box", "a", 0), ("one", "a", 0)])

    def test_the_writes_and_other_rules_are_not_asked(self):
        write = [("a", ("and", ("box", "z"), ("door", "go")))]
        works = made(BOXES, DOORS, [("first", ("box", "a"), write), ("two", YES, write), ("three", ("box", "z"), [])])
        self.assertEqual(asked_bits(works, "first", "two"), [("box", "a", 0)])

    def test_a_told_list_is_the_askers_own(self):
        works = works_of(("box", "a"), ("box", "z"))
        before = list(asked_bits(works, "first", "two"))
        asked_bits(works, "first", "two").clear()
        self.assertEqual(asked_bits(works, "first", "two"), before)


class CubesTest(unittest.TestCase):
    def test_guards_without_any_bit(self):
        self.assertEqual(answer(NO, NO), ("never", [((), 0)]))
        self.assertEqual(answer(NO, YES), ("never", [((), 0)]))
        self.assertEqual(answer(YES, NO), ("never", [((), 1)]))
        self.assertEqual(answer(YES, YES), ("both", {}, {}, {}, {}))

    def test_a_guard_that_is_0_whatever_is_read(self):
        never = ("and", ("box", "w"), ("num", 64, 0))
        self.assertEqual(answer(is_num(never, 64, 1), ("box", "a")), ("never", [((), 0)]))
        self.assertEqual(answer(("box", "a"), is_num(never, 64, 1)), ("never", [((), 1)]))

    def test_one_bit(self):
        box = ("box", "a")
        self.assertEqual(answer(box, ("not", box)), ("never", [((0,), 0), ((1,), 1)]))
        self.assertEqual(answer(("not", box), box), ("never", [((0,), 1), ((1,), 0)]))
        door = ("door", "go")
        self.assertEqual(answer(door, ("not", door)), ("never", [((0,), 0), ((1,), 1)]))

    def test_where_both_are_0_it_is_the_cube_of_one(self):
        self.assertEqual(answer(("and", ("box", "a"), NO), NO), ("never", [((), 0)]))
        guard = is_num(("box", "b"), 2, 3)
        self.assertEqual(answer(guard, is_num(("box", "b"), 2, 2)), ("never", [((0,), 0), ((1, 0), 0), ((1, 1), 1)]))

    def test_numbers_told_apart(self):
        told = answer(is_num(("box", "b"), 2, 1), is_num(("box", "b"), 2, 2))
        self.assertEqual(told, ("never", [((0,), 1), ((1,), 0)]))
        told = answer(is_num(("box", "c"), 3, 2), is_num(("box", "c"), 3, 3))
        self.assertEqual(told, ("never", [((0, 0), 0), ((0, 1, 0), 1), ((0, 1, 1), 0), ((1,), 0)]))

    def test_less(self):
        low, high = ("less", ("box", "b"), ("num", 2, 2)), ("less", ("num", 2, 1), ("box", "b"))
        self.assertEqual(answer(low, high), ("never", [((0,), 1), ((1,), 0)]))
        low, high = ("less", ("box", "b"), ("num", 2, 1)), ("less", ("num", 2, 2), ("box", "b"))
        self.assertEqual(answer(low, high), ("never", [((0,), 1), ((1,), 0)]))

    def test_bits_of_the_sorts_in_a_cube(self):
        one = ("and", ("box", "a"), ("late", "z"))
        other = ("and", ("not", ("box", "a")), ("door", "go"))
        self.assertEqual(bits(one, other), [("box", "a", 0), ("door", "go", 0), ("one", "z", 0)])
        self.assertEqual(answer(one, other), ("never", [((0,), 0), ((1,), 1)]))
        one = ("and", ("door", "go"), ("less", ("late", "a"), ("late", "a")))
        self.assertEqual(answer(one, ("late", "a")), ("never", [((0,), 0), ((1, 0), 0), ((1, 1), 0)]))
        one = ("and", ("late", "a"), ("not", ("late", "a")))
        self.assertEqual(answer(one, ("late", "z")), ("never", [((0,), 0), ((1,), 0)]))
        self.assertEqual(
            answer(("late", "z"), one),
            ("never", [((0,), 0), ((1, 0), 1), ((1, 1), 1)]),
        )

    def test_late_words_of_both_are_told_apart(self):
        box = ("late", "a")
        self.assertEqual(answer(box, ("not", box)), ("both", {}, {}, {"a": 1}, {"a": 0}))
        self.assertEqual(answer(("not", box), box), ("both", {}, {}, {"a": 0}, {"a": 1}))

    def test_late_words_are_told_apart_from_early_ones(self):
        self.assertEqual(answer(("box", "a"), ("not", ("late", "a"))), ("both", {"a": 1}, {}, {}, {"a": 0}))
        self.assertEqual(answer(("late", "a"), ("not", ("box", "a"))), ("both", {"a": 0}, {}, {"a": 1}, {}))

    def test_it_is_of_the_kinds_told(self):
        told = answer(("box", "a"), ("not", ("box", "a")))
        self.assertIs(type(told), tuple)
        self.assertIs(type(told[1]), list)
        for cube in told[1]:
            self.assertEqual([type(cube), type(cube[0]), type(cube[1])], [tuple, tuple, int])
            self.assertEqual({type(mark) for mark in cube[0]}, {int})

    def test_told_cubes_are_the_askers_own(self):
        works = works_of(("box", "a"), ("not", ("box", "a")))
        never_both(works, "first", "two")[1].clear()
        self.assertEqual(never_both(works, "first", "two"), ("never", [((0,), 0), ((1,), 1)]))

    def test_the_works_stays(self):
        works = works_of(("box", "a"), ("door", "go"))
        before = repr(works)
        told = never_both(works, "first", "two")
        told[1].clear()
        told[2]["zz"] = 1
        self.assertEqual(repr(works), before)
        self.assertEqual(never_both(works, "first", "two"), ("both", {"a": 1}, {"go": 1}, {}, {}))


class BothTest(unittest.TestCase):
    def test_just_the_names_that_are_read(self):
        one = ("and", ("box", "a"), ("and", ("door", "go"), is_num(("late", "b"), 2, 2)))
        other = ("and", ("box", "z"), ("and", ("door", "at"), is_num(("late", "c"), 3, 5)))
        asked = ("both", {"a": 1, "z": 1}, {"go": 1, "at": 1}, {"b": 2}, {"c": 5})
        self.assertEqual(answer(one, other), asked)
        asked = ("both", {"a": 1, "z": 1}, {"go": 1, "at": 1}, {"c": 5}, {"b": 2})
        self.assertEqual(answer(other, one), asked)

    def test_bits_that_are_not_known_are_0(self):
        top = ("part", ("box", "w"), 63, 1)
        self.assertEqual(answer(top, YES), ("both", {"w": 2 ** 63}, {}, {}, {}))
        self.assertEqual(answer(YES, ("part", ("late", "w"), 63, 1)), ("both", {}, {}, {}, {"w": 2 ** 63}))
        self.assertEqual(answer(("part", ("late", "w"), 63, 1), YES), ("both", {}, {}, {"w": 2 ** 63}, {}))
        self.assertEqual(answer(("part", ("door", "by"), 1, 1), YES), ("both", {}, {"by": 2}, {}, {}))

    def test_names_none_of_whose_bits_is_known_are_told_too(self):
        always = ("or", YES, ("box", "z"))
        self.assertEqual(answer(always, YES), ("both", {"z": 0}, {}, {}, {}))
        self.assertEqual(answer(YES, ("or", ("late", "a"), YES)), ("both", {}, {}, {}, {"a": 0}))
        told = answer(("or", ("door", "go"), ("box", "a")), ("or", YES, ("same", ("late", "w"), ("box", "w"))))
        self.assertEqual(told, ("both", {"a": 0, "w": 0}, {"go": 1}, {}, {"w": 0}))

    def test_the_first_words_found_are_told(self):
        one = ("less", ("num", 3, 2), ("box", "c"))
        self.assertEqual(answer(one, ("part", ("box", "c"), 0, 1)), ("both", {"c": 3}, {}, {}, {}))
        self.assertEqual(answer(one, ("not", ("part", ("box", "c"), 0, 1))), ("both", {"c": 4}, {}, {}, {}))

    def test_told_dicts_are_new_ones(self):
        told = answer(YES, YES)
        told[1]["a"] = 1
        self.assertEqual(told[2:], ({}, {}, {}))
        self.assertEqual(answer(YES, YES), ("both", {}, {}, {}, {}))


class ManyCubesTest(unittest.TestCase):
    def test_just_64_are_never(self):
        odd = parity("x", 6)
        told = answer(odd, ("not", odd))
        self.assertEqual(told[0], "never")
        marks = list(itertools.product([0, 1], repeat=6))
        self.assertEqual(told[1], [(bits, sum(bits) % 2) for bits in marks])

    def test_more_than_64_are_unsure(self):
        odd = parity("x", 7)
        self.assertEqual(answer(odd, ("not", odd), [("x", 7, 0)]), ("unsure",))

    def guarded(self, first, behind):
        """A guard that goes by the bit a, which is known first: of it 0 the one, of it 1 the other."""
        return ("pick", ("box", "a"), behind, first)

    def test_65_of_which_the_last_one_ends_the_row(self):
        odd = parity("x", 6)
        one, other = self.guarded(odd, NO), self.guarded(("not", odd), YES)
        self.assertEqual(answer(one, other), ("unsure",))
        one, other = self.guarded(NO, odd), self.guarded(YES, ("not", odd))
        self.assertEqual(answer(one, other), ("unsure",))

    def test_64_with_one_that_is_short(self):
        odd = parity("x", 6)
        # With x at 62 and 63 one cube does for two.
        one = ("and", odd, ("less", ("box", "x"), ("num", 6, 62)))
        two = ("and", ("not", odd), ("less", ("box", "x"), ("num", 6, 62)))
        self.assertEqual(len(answer(one, two)[1]), 63)
        told = answer(self.guarded(one, NO), self.guarded(two, YES))
        self.assertEqual((told[0], len(told[1]), told[1][63]), ("never", 64, ((1,), 0)))
        told = answer(self.guarded(NO, one), self.guarded(YES, two))
        self.assertEqual((told[0], len(told[1]), told[1][0]), ("never", 64, ((0,), 0)))

    def test_both_behind_64_cubes(self):
        odd = parity("x", 6)
        told = answer(self.guarded(odd, YES), self.guarded(("not", odd), YES))
        self.assertEqual(told, ("both", {"a": 1, "x": 0}, {}, {}, {}))

    def test_unsure_though_both_would_come_later(self):
        odd = parity("x", 6)
        one = ("pick", ("box", "a"), ("box", "b"), odd)
        other = ("pick", ("box", "a"), ("box", "b"), ("not", odd))
        boxes = [("a", 1, 0), ("b", 1, 0), ("x", 6, 0)]
        # Here b stands between a and x, so that each half of it has its own 64 cubes.
        self.assertEqual(answer(one, other, boxes), ("unsure",))
        boxes = [("a", 1, 0), ("y", 1, 0), ("x", 6, 0)]
        one, other = [("pick", ("box", "a"), ("box", "y"), low) for low in (odd, ("not", odd))]
        self.assertEqual(answer(one, other, boxes), ("unsure",))

    def test_wide_words(self):
        one, other = ("less", ("box", "w"), ("box", "v")), ("less", ("box", "v"), ("box", "w"))
        self.assertEqual(answer(one, other, [("v", 64, 0), ("w", 64, 0)]), ("unsure",))

    def test_numbers_of_width_64_told_apart_by_the_last_bit_but_one_and_by_the_last(self):
        told = answer(is_num(("box", "w"), 64, 5), is_num(("box", "w"), 64, 6))
        self.assertEqual((told[0], len(told[1])), ("never", 64))
        self.assertEqual(told[1][0], ((0,) * 62, 0))
        self.assertEqual(told[1][-1], ((1,), 0))
        for one, other in [(5, 4), (1, 0), (0, 1)]:
            told = answer(is_num(("box", "w"), 64, one), is_num(("box", "w"), 64, other))
            self.assertEqual(told, ("unsure",))


def guard_marks(one, other, row, known):
    """The half-known worths of both guards, told anew from the known bits by the words of point 11."""
    marks = {"box": {}, "door": {}, "one": {}, "other": {}}
    for number, (sort, name, place) in enumerate(row):
        marks[sort].setdefault(name, [2] * (place + 1))[place] = known[number] if number < len(known) else 2
    return (marks_by_point(one, marks["box"], marks["one"], marks["door"])[0],
            marks_by_point(other, marks["box"], marks["other"], marks["door"])[0])


def cubes_below(one, other, row, known):
    """The cubes below a beginning of the row, in their order; where both hold, its known bits and None at the end."""
    held = guard_marks(one, other, row, known)
    if held == (1, 1):
        return [(known, None)]
    if 0 in held:
        return [(known, 0 if held[0] == 0 else 1)]
    told = cubes_below(one, other, row, known + (0,))
    return told if told[-1][1] is None else told + cubes_below(one, other, row, known + (1,))


def answer_by_point(one, other, row, names):
    """The answer of point 14 another way: all cubes first, and then their number."""
    cubes = cubes_below(one, other, row, ())
    ends = cubes[-1][1] is None
    if len(cubes) - ends > 64:
        return ("unsure",)
    if not ends:
        return ("never", cubes)
    words = [dict.fromkeys(named, 0) for named in names]
    for (sort, name, place), bit in zip(row, cubes[-1][0]):
        words[["box", "door", "one", "other"].index(sort)][name] += bit << place
    return ("both", *words)


class DrawnTest(unittest.TestCase):
    """Drawn guards, asked in both ways, and point 15."""

    BOXES = [("a", 1, 0), ("b", 2, 0), ("c", 1, 0), ("d", 2, 0)]
    DOORS = [("go", 1), ("by", 2)]

    def drawn(self, seed, many, deep):
        chance = random.Random(seed)
        boxes, doors = [dict((row[0], row[1]) for row in rows) for rows in (self.BOXES, self.DOORS)]
        for _ in range(many):
            one, other = [drawn_term(chance, 1, chance.randrange(2, deep), boxes, doors) for _ in range(2)]
            if chance.randrange(2):
                shared = drawn_term(chance, 1, 3, boxes, doors)
                one, other = ("and", shared, one), ("and", ("not", shared), other)
            works = works_of(one, other, self.BOXES, self.DOORS)
            if len(asked_bits(works, "first", "two")) <= 11:
                yield works

    def names(self, works):
        one, other = [reads(rule_of(works, name)[1]) for name in ("first", "two")]
        return sorted(set(one[0] + other[0])), sorted(set(one[2] + other[2])), one[1], other[1]

    def test_the_same_answer_another_way(self):
        seen = {"never": 0, "both": 0, "unsure": 0}
        for works in self.drawn(14, 500, 6):
            one, other = [rule_of(works, name)[1] for name in ("first", "two")]
            row = asked_bits(works, "first", "two")
            told = never_both(works, "first", "two")
            self.assertEqual(told, answer_by_point(one, other, row, self.names(works)), (one, other))
            seen[told[0]] += 1
        self.assertGreater(min(seen["never"], seen["both"]), 50)

    def worths(self, works, words):
        """Both guards' worths for words of what is read: early, at doors, late of one and late of other."""
        early, doors, late_one, late_other = words
        return [worth(rule_of(works, name)[1], widths_of(works), early, late, doors)
                for name, late in (("first", late_one), ("two", late_other))]

    def test_never_has_just_one_cube_for_all_words(self):
        several = 0
        for works in self.drawn(15, 400, 5):
            told = never_both(works, "first", "two")
            if told[0] != "never":
                continue
            several += len(told[1]) > 1
            row = asked_bits(works, "first", "two")
            for marks in itertools.product([0, 1], repeat=len(row)):
                met = [cube for cube in told[1] if marks[:len(cube[0])] == cube[0]]
                self.assertEqual(len(met), 1)
                words = [dict.fromkeys(named, 0) for named in self.names(works)]
                for (sort, name, place), bit in zip(row, marks):
                    words[["box", "door", "one", "other"].index(sort)][name] += bit << place
                self.assertEqual(self.worths(works, words)[met[0][1]], 0)
        self.assertGreater(several, 30)

    def test_both_guards_are_1_for_the_words_of_both(self):
        several = 0
        for works in self.drawn(16, 400, 6):
            told = never_both(works, "first", "two")
            if told[0] == "both":
                several += 1
                self.assertEqual(tuple(sorted(named) for named in told[1:]), tuple(self.names(works)))
                self.assertEqual(self.worths(works, told[1:]), [1, 1])
        self.assertGreater(several, 50)


if __name__ == "__main__":
    unittest.main()
