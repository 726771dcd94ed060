"""Points 32 and 33: the states that the plain machine comes to, and sayings that hold in all of them."""

import copy
import itertools
import random
import unittest

from beatwright.errors import NoWidth, NoWord, TooMany, Unknown, Unlike
from beatwright.looks import kept, reached
from beatwright.plain import can, do
from beatwright.terms import worth
from beatwright.works import first_words, made, widths_of
from tests.samples import EACH_FORM, FEW_BITS, NO, YES, drawn_term, drawn_works, names_of, nested, tree


def counter(last, width=9):
    """A works that counts from 0 up to a last word, in one box."""
    guard = ("less", ("box", "n"), ("num", width, last))
    return made([("n", width, 0)], [], [("up", guard, [("n", ("plus", ("box", "n"), ("num", width, 1)))])])


def doored(*widths):
    """A works with doors of some widths, of which no rule reads any."""
    return made([("a", 2, 1)], [("d" + "abcdef"[place], width) for place, width in enumerate(widths)],
                [("up", YES, [("a", ("plus", ("box", "a"), ("num", 2, 1)))])])


def told_state(works, now):
    return tuple(now[box[0]] for box in works[0])


def named(works, state):
    return dict(zip([box[0] for box in works[0]], state))


def doors_of(works, words):
    return dict(zip([door[0] for door in works[1]], words))


def found_by_single_rules(works):
    """All states with their ways, found one rule at a time."""
    states, ways = [told_state(works, first_words(works))], [None]
    for number, state in enumerate(states):
        for name in names_of(works):
            for words in itertools.product(*[range(2 ** width) for _, width in works[1]]):
                now, doors = named(works, state), doors_of(works, words)
                if not can(works, name, now, doors):
                    continue
                behind = told_state(works, do(works, name, now, doors))
                if behind not in states:
                    states.append(behind)
                    ways.append((number, name, words))
    return states, ways


def holds(works, saying, state):
    now = named(works, state)
    return worth(saying, widths_of(works), now, now, {}) == 1


class ReachedTest(unittest.TestCase):
    def test_a_counter(self):
        self.assertEqual(reached(counter(3), 300), (
            [(0,), (1,), (2,), (3,)], [None, (0, "up", ()), (1, "up", ()), (2, "up", ())]))

    def test_kinds(self):
        told = reached(counter(3), 300)
        self.assertEqual([type(part) for part in (told, *told)], [tuple, list, list])
        self.assertEqual({type(state) for state in told[0]}, {tuple})
        self.assertEqual({type(way) for way in told[1][1:]}, {tuple})

    def test_without_rules_without_boxes_without_anything(self):
        self.assertEqual(reached(made([], [], []), 1), ([()], [None]))
        self.assertEqual(reached(made([("a", 4, 9), ("b", 1, 1)], [("go", 4)], []), 1), ([(9, 1)], [None]))
        self.assertEqual(reached(made([], [("go", 2)], [("idle", YES, [])]), 1), ([()], [None]))

    def test_rules_that_cannot_be_done(self):
        shut = ("shut", NO, [("a", ("num", 2, 3))])
        self.assertEqual(reached(made([("a", 2, 1)], [], [shut]), 300), ([(1,)], [None]))
        later = ("later", ("same", ("box", "a"), ("num", 2, 2)), [("a", ("num", 2, 0))])
        self.assertEqual(reached(made([("a", 2, 1)], [], [shut, later]), 300), ([(1,)], [None]))

    def test_words_in_the_order_of_the_boxes(self):
        works = made([("z", 2, 1), ("a", 3, 5), ("m", 1, 0)], [], [("go", YES, [("m", YES), ("z", ("num", 2, 2))])])
        self.assertEqual(reached(works, 300), ([(1, 5, 0), (2, 5, 1)], [None, (0, "go", ())]))

    def test_the_last_door_is_the_fastest(self):
        works = made([("a", 3, 0)], [("y", 1), ("x", 2)], [
            ("put", YES, [("a", ("join", ("door", "y"), ("door", "x")))])])
        words = [(0, 1), (0, 2), (0, 3), (1, 0), (1, 1), (1, 2), (1, 3)]
        self.assertEqual(reached(works, 8), (
            [(number,) for number in range(8)], [None] + [(0, "put", pair) for pair in words]))

    def test_words_at_the_doors_count_up(self):
        # What is found goes by the words at the doors, not by the words in the box.
        works = made([("a", 4, 15)], [("x", 4)], [("put", YES, [("a", ("not", ("door", "x")))])])
        states, ways = reached(works, 16)
        self.assertEqual(states, [(number,) for number in range(15, -1, -1)])
        self.assertEqual(ways, [None] + [(0, "put", (number,)) for number in range(1, 16)])

    def test_the_first_words_at_the_doors_that_lead_there(self):
        works = made([("a", 1, 0)], [("x", 2), ("y", 2)], [
            ("put", ("less", ("door", "x"), ("door", "y")), [("a", YES)])])
        self.assertEqual(reached(works, 2), ([(0,), (1,)], [None, (0, "put", (0, 1))]))
        works = made([("a", 1, 0)], [("x", 2), ("y", 2)], [
            ("put", ("less", ("door", "y"), ("door", "x")), [("a", YES)])])
        self.assertEqual(reached(works, 2), ([(0,), (1,)], [None, (0, "put", (1, 0))]))

    def test_rule_by_rule_and_for_each_all_words(self):
        works = made([("a", 2, 0)], [("x", 1)], [
            ("zed", YES, [("a", ("join", ("num", 1, 1), ("door", "x")))]), ("abe", YES, [("a", ("num", 2, 1))]),
        ])
        self.assertEqual(reached(works, 4), (
            [(0,), (2,), (3,), (1,)], [None, (0, "zed", (0,)), (0, "zed", (1,)), (0, "abe", (0,))]))

    def test_one_found_state_after_the_other(self):
        # From 0 to 1 and 2, from 1 to 3 and 4, from 2 to 5 and 6: broad ahead of deep.
        twice = ("join", ("part", ("box", "a"), 0, 2), ("num", 1, 0))
        guard = ("less", ("box", "a"), ("num", 3, 3))
        works = made([("a", 3, 0)], [], [
            ("one", guard, [("a", ("plus", twice, ("num", 3, 1)))]),
            ("two", guard, [("a", ("plus", twice, ("num", 3, 2)))]),
        ])
        self.assertEqual(reached(works, 7), ([(number,) for number in range(7)], [
            None, (0, "one", ()), (0, "two", ()), (1, "one", ()), (1, "two", ()), (2, "one", ()), (2, "two", ())]))

    def test_early_and_late_are_the_same(self):
        works = made([("a", 2, 1), ("b", 2, 2)], [], [("swap", YES, [("a", ("late", "b")), ("b", ("box", "a"))])])
        self.assertEqual(reached(works, 2), ([(1, 2), (2, 1)], [None, (0, "swap", ())]))

    def test_all_of_it_of_drawn_works(self):
        chance = random.Random(32)
        several = 0
        for _ in range(100):
            works = drawn_works(chance, chance.randrange(0, 6))
            states, ways = found_by_single_rules(works)
            self.assertEqual(reached(works, len(states)), (states, ways))
            self.assertEqual(reached(works, 300), (states, ways))
            if len(states) > 1:
                self.assertIsNone(reached(works, len(states) - 1))
                several += 1
        self.assertGreater(several, 30)

    def test_ways_lead_from_state_to_state(self):
        chance = random.Random(320)
        for _ in range(20):
            works = drawn_works(chance, 4)
            states, ways = reached(works, 300)
            self.assertEqual(len(states), len(ways))
            self.assertEqual(len(set(states)), len(states))
            self.assertEqual((states[0], ways[0]), (told_state(works, first_words(works)), None))
            for number, (state, way) in enumerate(zip(states[1:], ways[1:]), 1):
                self.assertLess(way[0], number)
                behind = do(works, way[1], named(works, states[way[0]]), doors_of(works, way[2]))
                self.assertEqual(told_state(works, behind), state)


class DoorBitsTest(unittest.TestCase):
    def test_four_bits_are_let_by(self):
        for widths in ((4,), (1, 3), (2, 2), (1, 1, 2), (1, 1, 1, 1), (1,), ()):
            with self.subTest(widths=widths):
                nought = tuple(0 for _ in widths)
                self.assertEqual(reached(doored(*widths), 4), (
                    [(1,), (2,), (3,), (0,)], [None] + [(number, "up", nought) for number in range(3)]))
                self.assertEqual(kept(doored(*widths), YES, 4), ("kept", [(1,), (2,), (3,), (0,)]))

    def test_more_bits_are_refused(self):
        for widths in ((5,), (64,), (4, 1), (1, 4), (2, 3), (2, 2, 1), (1, 1, 1, 1, 1), (64,) * 6):
            for most in (1, 300):
                with self.subTest(widths=widths, most=most):
                    with self.assertRaises(TooMany):
                        reached(doored(*widths), most)
                    with self.assertRaises(TooMany):
                        kept(doored(*widths), YES, most)

    def test_they_are_refused_where_there_is_no_rule_and_where_all_is_broken(self):
        with self.assertRaises(TooMany):
            reached(made([], [("x", 5)], []), 1)
        with self.assertRaises(TooMany):
            kept(doored(5), NO, 1)


class MostTest(unittest.TestCase):
    def test_just_as_many_and_one_more(self):
        for last in (0, 1, 2, 7, 50):
            works = counter(last)
            self.assertEqual(len(reached(works, last + 1)[0]), last + 1)
            if last > 0:
                self.assertIsNone(reached(works, last))
                self.assertIsNone(reached(works, 1))

    def test_three_hundred(self):
        self.assertEqual(reached(counter(299), 300)[0], [(number,) for number in range(300)])
        self.assertIsNone(reached(counter(300), 300))
        self.assertIsNone(reached(counter(299), 299))
        self.assertIsNone(reached(counter(2 ** 64 - 1, 64), 300))

    def test_one(self):
        self.assertEqual(reached(counter(0), 1), ([(0,)], [None]))
        self.assertIsNone(reached(counter(1), 1))


class KeptTest(unittest.TestCase):
    def test_a_saying_that_holds_everywhere(self):
        saying = ("less", ("box", "n"), ("num", 9, 6))
        self.assertEqual(kept(counter(5), saying, 300), ("kept", [(number,) for number in range(6)]))

    def test_kinds(self):
        told = kept(counter(5), YES, 300)
        self.assertEqual((type(told), type(told[1]), type(told[1][0])), (tuple, list, tuple))
        told = kept(counter(5), ("same", ("box", "n"), ("num", 9, 0)), 300)
        self.assertEqual((type(told), type(told[1]), type(told[1][0])), (tuple, list, tuple))

    def test_broken_at_the_first_words(self):
        self.assertEqual(kept(counter(5), NO, 300), ("broken", []))
        self.assertEqual(kept(counter(5), ("less", ("num", 9, 0), ("box", "n")), 1), ("broken", []))
        self.assertEqual(kept(made([], [], []), NO, 1), ("broken", []))

    def test_broken_later(self):
        for first in range(1, 6):
            saying = ("less", ("box", "n"), ("num", 9, first))
            self.assertEqual(kept(counter(5), saying, 300), ("broken", [("up", ())] * first))

    def test_broken_at_the_last_state_alone(self):
        saying = ("not", ("same", ("box", "n"), ("num", 9, 5)))
        self.assertEqual(kept(counter(5), saying, 6), ("broken", [("up", ())] * 5))
        self.assertEqual(kept(counter(4), saying, 6), ("kept", [(number,) for number in range(5)]))

    def test_the_row_goes_from_the_first_words_on(self):
        works = made([("a", 2, 0), ("b", 2, 0)], [("x", 1), ("y", 2)], [
            ("fill", ("door", "x"), [("a", ("door", "y"))]),
            ("move", ("same", ("box", "a"), ("num", 2, 2)), [("b", ("box", "a")), ("a", ("num", 2, 0))]),
        ])
        saying = ("not", ("and", ("same", ("box", "b"), ("num", 2, 2)), ("same", ("box", "a"), ("num", 2, 3))))
        self.assertEqual(kept(works, saying, 300), ("broken", [("fill", (1, 2)), ("move", (0, 0)), ("fill", (1, 3))]))

    def test_late_is_as_box(self):
        for form in ("box", "late"):
            saying = ("less", (form, "n"), ("num", 9, 3))
            self.assertEqual(kept(counter(2), saying, 300), ("kept", [(0,), (1,), (2,)]))
            self.assertEqual(kept(counter(3), saying, 300), ("broken", [("up", ())] * 3))
        self.assertEqual(kept(counter(2), ("same", ("box", "n"), ("late", "n")), 300), ("kept", [(0,), (1,), (2,)]))

    def test_without_boxes(self):
        self.assertEqual(kept(made([], [], [("idle", YES, [])]), YES, 1), ("kept", [()]))

    def test_the_states_are_those_of_reached(self):
        chance = random.Random(33)
        for _ in range(20):
            works = drawn_works(chance, 4)
            self.assertEqual(kept(works, YES, 300), ("kept", reached(works, 300)[0]))


class UnsureTest(unittest.TestCase):
    def test_one_more_is_found(self):
        saying = ("less", ("box", "n"), ("num", 9, 6))
        self.assertEqual(kept(counter(5), saying, 6)[0], "kept")
        for most in (1, 2, 4, 5):
            self.assertEqual(kept(counter(5), saying, most), ("unsure",))

    def test_broken_at_that_same_one(self):
        for most in (1, 2, 5):
            # The state that is one too many has the number "most", counted from 0.
            broken_there = ("not", ("same", ("box", "n"), ("num", 9, most)))
            self.assertEqual(kept(counter(9), broken_there, most), ("broken", [("up", ())] * most))
            broken_behind = ("not", ("same", ("box", "n"), ("num", 9, most + 1)))
            self.assertEqual(kept(counter(9), broken_behind, most), ("unsure",))
            self.assertEqual(kept(counter(9), broken_behind, most + 1), ("broken", [("up", ())] * (most + 1)))

    def test_three_hundred(self):
        self.assertEqual(len(kept(counter(299), YES, 300)[1]), 300)
        self.assertEqual(kept(counter(300), YES, 300), ("unsure",))
        saying = ("less", ("box", "n"), ("num", 9, 300))
        self.assertEqual(kept(counter(300), saying, 300), ("broken", [("up", ())] * 300))


class DrawnTest(unittest.TestCase):
    def asked(self, works, saying, most):
        """What the saying is to be told, by all states found one rule at a time."""
        states, ways = found_by_single_rules(works)
        for number, state in enumerate(states):
            if not holds(works, saying, state):
                row = []
                while ways[number] is not None:
                    row.insert(0, ways[number][1:])
                    number = ways[number][0]
                return ("broken", row)
            if number == most:
                return ("unsure",)
        return ("kept", states)

    def test_drawn_sayings_of_drawn_works(self):
        chance = random.Random(330)
        seen = {"broken": 0, "unsure": 0, "kept": 0}
        for _ in range(400):
            works = drawn_works(chance, chance.randrange(2, 7))
            saying = ("or", drawn_term(chance, 1, 3, FEW_BITS[0], {}), drawn_term(chance, 1, 3, FEW_BITS[0], {}))
            most = chance.choice([1, 2, 3, 5, 8, 300])
            told = kept(works, saying, most)
            self.assertEqual(told, self.asked(works, saying, most))
            seen[told[0]] += 1
            if told[0] == "broken":
                self.leads_there(works, saying, told[1])
        self.assertGreater(min(seen.values()), 40)

    def leads_there(self, works, saying, row):
        """The row leads by the plain machine to a state in which the saying is 0, and to none such ahead of it."""
        now = first_words(works)
        for name, words in row:
            self.assertTrue(holds(works, saying, told_state(works, now)))
            self.assertTrue(can(works, name, now, doors_of(works, words)))
            now = do(works, name, now, doors_of(works, words))
        self.assertFalse(holds(works, saying, told_state(works, now)))


class SayingsRefusedTest(unittest.TestCase):
    WORKS = made([("a", 1, 0), ("b", 4, 3)], [("go", 1), ("by", 3)], [("set", ("door", "go"), [("a", YES)])])
    # The same with one bit more at the doors.
    WIDE = made([("a", 1, 0), ("b", 4, 3)], [("go", 1), ("by", 4)], [("set", ("door", "go"), [("a", YES)])])

    def refused(self, error, saying):
        """It is refused so, too, where the doors have too many bits and TooMany would come next."""
        for works, most in ((self.WORKS, 300), (self.WORKS, 1), (self.WIDE, 300)):
            with self.subTest(saying=saying, works=works):
                with self.assertRaises(error) as caught:
                    kept(works, saying, most)
                self.assertIs(type(caught.exception), error)

    def test_doors(self):
        self.refused(Unknown, ("door", "go"))
        self.refused(Unknown, ("and", ("box", "a"), ("door", "go")))
        self.refused(Unknown, ("same", ("door", "by"), ("num", 3, 0)))
        self.refused(Unknown, ("door", "a"))
        self.refused(Unknown, ("door", "nobody"))
        self.refused(Unknown, nested(12, ("door", "go")))

    def test_a_doors_name_behind_box(self):
        self.refused(Unknown, ("box", "go"))
        self.refused(Unknown, ("late", "go"))

    def test_other_names(self):
        self.refused(Unknown, ("box", "nobody"))
        self.refused(Unknown, ("late", "set"))
        self.refused(Unknown, ("or", ("box", "a"), ("late", "")))

    def test_another_width(self):
        self.refused(Unlike, ("box", "b"))
        self.refused(Unlike, ("num", 2, 1))
        self.refused(Unlike, ("num", 64, 0))
        self.refused(Unlike, ("join", ("box", "a"), ("box", "a")))

    def test_what_is_refused_of_any_term(self):
        self.refused(NoWidth, ("num", 0, 0))
        self.refused(NoWidth, ("part", ("box", "b"), 2, 3))
        self.refused(NoWidth, ("same", ("join", ("num", 64, 0), ("box", "a")), ("box", "b")))
        self.refused(NoWord, ("num", 1, 2))
        self.refused(Unlike, ("same", ("box", "a"), ("box", "b")))
        self.refused(Unlike, ("pick", ("box", "b"), ("box", "a"), ("box", "a")))
        self.refused(TooMany, nested(13))
        self.refused(TooMany, tree(101))

    def test_the_first_that_comes(self):
        self.refused(TooMany, nested(13, ("door", "go")))
        self.refused(Unknown, ("and", ("door", "go"), ("num", 1, 2)))
        self.refused(NoWord, ("and", ("num", 1, 2), ("door", "go")))
        self.refused(Unknown, ("join", ("door", "go"), ("box", "a")))
        self.refused(NoWidth, ("and", ("num", 65, 0), ("box", "go")))

    def test_the_edges_are_let_by(self):
        for saying in (nested(12, YES), tree(99, ("box", "a")), ("part", ("box", "b"), 3, 1)):
            self.assertIn(kept(self.WORKS, saying, 300)[0], ("kept", "broken"))
        with self.assertRaises(TooMany):
            kept(self.WIDE, YES, 300)

    def test_each_form_without_doors(self):
        works = made([("bit", 1, 1), ("two", 2, 1), ("four", 4, 2), ("wide", 64, 5)], [], [])
        now = first_words(works)
        for term, *_, width in EACH_FORM:
            if "door" not in repr(term):
                saying = ("part", term, 0, 1)
                answer = ("kept", [(1, 1, 2, 5)]) if worth(saying, widths_of(works), now, now, {}) else ("broken", [])
                self.assertEqual(kept(works, saying, 1), answer)
                if width > 1:
                    self.assertRaises(Unlike, kept, works, term, 1)


class OwnTest(unittest.TestCase):
    def test_what_is_told_is_the_askers_own(self):
        works = counter(4)
        handed = copy.deepcopy(works)
        asks = (lambda: reached(works, 300)[0], lambda: reached(works, 300)[1], lambda: kept(works, YES, 300)[1],
                lambda: kept(works, ("less", ("box", "n"), ("num", 9, 3)), 300)[1])
        for ask in asks:
            told = ask()
            asked = list(told)
            told.clear()
            told.append("more")
            self.assertEqual(ask(), asked)
            self.assertIsNot(ask(), ask())
        self.assertEqual(works, handed)


if __name__ == "__main__":
    unittest.main()
