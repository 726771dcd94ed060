"""Point 36: the desk answers a text with a works, an order and beats."""

import itertools
import random
import unittest

from beatwright.beats import run
from beatwright.desk import answer
from beatwright.errors import NoName, NoOrder, NoText, NoWidth, NoWord, Ring, TooMany, Twice, Unknown, Unlike
from beatwright.lines import line
from beatwright.plans import own_plan, plan
from beatwright.texts import shown
from beatwright.wires import tick, wired
from beatwright.works import first_words, widths_of
from tests.samples import MANY_BITS, drawn_words, drawn_works, names_of

WORKS = [
    "box full 1 0", "box item 4 3", "box out 4 5", "door has 1", "door thing 4",
    "rule take door has", "set full num 1 1", "set item door thing",
    "rule show late full", "set full num 1 0", "set out late item",
]

# Where "b" stands ahead, "a" needs it, since it reads late what "b" puts, and "b" needs "a", the more urgent one of
# a clash.
RING = ["box x 1 0", "box y 1 0", "rule a or late x not box y", "rule b num 1 1", "set x num 1 1", "set y num 1 1"]


def said(*rows):
    return "\n".join(rows)


def asked_text(works, order, rows):
    """The text that asks the desk for an order (None for the works' own plan) and rows of words at the doors."""
    text = [shown(works)] if shown(works) else []
    text.append(" ".join(["order", *(order or [])]))
    text += [" ".join(["beat", *[str(doors[name]) for name, _ in works[1]]]) for doors in rows]
    return "\n".join(text)


def told_text(works, beats):
    """What is to be told of pairs (names taken, state behind)."""
    return "\n".join([" ".join([*taken, ":", *[f"{name} {behind[name]}" for name, *_ in works[0]]])
                      for taken, behind in beats])


class AnswerTest(unittest.TestCase):
    def test_an_order(self):
        beats = ["beat 1 9", "beat 0 7", "beat 1 2"]
        self.assertEqual(answer(said(*WORKS, "order take show", *beats)), said(
            "take show : full 0 item 9 out 9", ": full 0 item 9 out 9", "take show : full 0 item 2 out 2"))
        self.assertEqual(answer(said(*WORKS, "order show take", *beats)), said(
            "take : full 1 item 9 out 5", "show : full 0 item 9 out 9", "take : full 1 item 2 out 9"))

    def test_the_works_own_plan(self):
        for beats in (["beat 1 9"], ["beat 0 0", "beat 1 15", "beat 1 0"]):
            self.assertEqual(answer(said(*WORKS, "order", *beats)), answer(said(*WORKS, "order take show", *beats)))

    def test_no_beat(self):
        self.assertEqual(answer(said(*WORKS, "order")), "")
        self.assertEqual(answer(said(*WORKS, "order show take")), "")
        self.assertEqual(answer("order"), "")

    def test_none_is_taken(self):
        self.assertEqual(answer(said(*WORKS, "order", "beat 0 1")), ": full 0 item 3 out 5")
        self.assertEqual(answer(said("box a 2 1", "rule r num 1 0", "order r", "beat", "beat")), ": a 1\n: a 1")

    def test_nothing_at_all(self):
        self.assertEqual(answer("order\nbeat"), ":")
        self.assertEqual(answer("order\nbeat\nbeat\nbeat"), ":\n:\n:")

    def test_no_doors(self):
        text = said("box n 3 6", "rule up num 1 1", "set n plus box n num 3 1", "order up", "beat", "beat", "beat")
        self.assertEqual(answer(text), "up : n 7\nup : n 0\nup : n 1")

    def test_no_boxes(self):
        text = said("door go 1", "rule a door go", "rule b not door go", "order b a", "beat 1", "beat 0")
        self.assertEqual(answer(text), "a :\nb :")
        self.assertEqual(answer(said("rule a num 1 1", "rule b num 1 1", "order b a", "beat")), "b a :")

    def test_no_rules(self):
        self.assertEqual(answer(said("box a 64 18446744073709551615", "door go 2", "order", "beat 3", "beat 0")),
                         said(*2 * [": a 18446744073709551615"]))

    def test_boxes_in_the_order_of_the_works(self):
        text = said("box z 1 0", "box a 2 3", "box m 1 1", "rule r num 1 1", "set a num 2 1", "set z num 1 1",
                    "order r", "beat")
        self.assertEqual(answer(text), "r : z 1 a 1 m 1")

    def test_words_in_the_order_of_the_doors(self):
        text = said("box a 4 0", "box b 4 0", "door z 4", "door c 4", "rule r num 1 1", "set a door c", "set b door z",
                    "order", "beat 1 2")
        self.assertEqual(answer(text), "r : a 2 b 1")

    def test_names_taken_in_the_order_of_the_plan(self):
        works = [f"rule {name} num 1 1" for name in "abc"]
        for names in itertools.permutations("abc"):
            order = " ".join(names)
            self.assertEqual(answer(said(*works, "order " + order, "beat")), order + " :")

    def test_a_clash(self):
        text = said("box x 1 0", "box y 1 0", "rule a num 1 1", "set x not box y", "rule b num 1 1", "set y not box x")
        self.assertEqual(answer(text + "\norder a b\nbeat\nbeat"), "a : x 1 y 0\na : x 1 y 0")
        self.assertEqual(answer(text + "\norder b a\nbeat"), "a : x 1 y 0")

    def test_names_that_are_words_of_the_rows_too(self):
        text = said("box order 1 0", "box beat 1 0", "door box 1", "rule door door box", "set order num 1 1",
                    "rule set num 1 1", "set beat box order", "order set door", "beat 0", "beat 1")
        self.assertEqual(answer(text), "set : order 0 beat 0\nset door : order 1 beat 0")

    def test_a_rule_called_order(self):
        self.assertEqual(answer(said("rule order num 1 1", "rule beat num 1 0", "order order beat", "beat")), "order :")

    def test_the_edges_of_words_at_the_doors(self):
        text = said("box a 64 0", "door d 64", "door e 1", "rule r door e", "set a door d", "order r")
        self.assertEqual(answer(text + "\nbeat 18446744073709551615 1\nbeat 0 1\nbeat 7 0"),
                         "r : a 18446744073709551615\nr : a 0\n: a 0")

    def test_kinds(self):
        self.assertIs(type(answer("order")), str)
        self.assertIs(type(answer("order\nbeat")), str)


class DrawnTest(unittest.TestCase):
    def test_drawn_works(self):
        chance = random.Random(36)
        for number in range(80):
            rules = chance.randrange(0, 5)
            works = drawn_works(chance, rules) if number % 4 else drawn_works(chance, rules, widths=MANY_BITS)
            rows = [drawn_words(chance, widths_of(works)[1]) for _ in range(chance.randrange(0, 6))]
            told = answer(asked_text(works, None, rows))
            self.assertEqual(told, told_text(works, run(works, own_plan(works), rows)))
            if rules > 0:
                self.by_some_order(works, chance.sample(names_of(works), rules), rows)

    def by_some_order(self, works, order, rows):
        text = asked_text(works, order, rows)
        try:
            own = plan(works, order)
        except Ring:
            self.assertRaises(Ring, answer, text)
            return
        self.assertEqual(answer(text), told_text(works, run(works, own, rows)))

    def test_as_the_wires_do(self):
        chance = random.Random(360)
        works = line(8, ["slide", "short", "calm"], [("plus", 7), ("xor", 3), ("minus", 5), ("or", 1)])
        rows = [drawn_words(chance, widths_of(works)[1]) for _ in range(12)]
        for order in itertools.permutations(names_of(works)):
            wires, now, beats = wired(works, plan(works, list(order))), first_words(works), []
            for doors in rows:
                taken, now = tick(works, wires, now, doors)
                beats.append((taken, now))
            self.assertEqual(answer(asked_text(works, list(order), rows)), told_text(works, beats))

    def test_the_same_each_time(self):
        text = said(*WORKS, "order take show", "beat 1 9", "beat 0 7")
        self.assertEqual(answer(text), answer(text))


class RefusedCase(unittest.TestCase):
    def refused(self, error, *rows):
        text = "\n".join(rows)
        with self.subTest(text=text):
            with self.assertRaises(error) as caught:
                answer(text)
            self.assertIs(type(caught.exception), error)


class NoTextTest(RefusedCase):
    def test_no_order_row(self):
        self.refused(NoText, "")
        self.refused(NoText, *WORKS)
        self.refused(NoText, *WORKS, "beat 1 9")
        self.refused(NoText, "beat")

    def test_two_order_rows(self):
        for second in ("order", "order take show"):
            for first in ("order", "order take show"):
                self.refused(NoText, *WORKS, first, second)
                self.refused(NoText, *WORKS, first, "beat 1 9", second)
                self.refused(NoText, *WORKS, first, second, "beat 1 9")
                self.refused(NoText, first, *WORKS, second)

    def test_a_beat_ahead_of_the_order(self):
        for place in range(len(WORKS) + 1):
            self.refused(NoText, *WORKS[:place], "beat 1 9", *WORKS[place:], "order")

    def test_a_row_of_the_works_behind_the_order(self):
        self.refused(NoText, "order", *WORKS)
        for row in ("box z 1 0", "door z 1", "rule z num 1 1", "set out num 4 1"):
            self.refused(NoText, *WORKS, "order", row)
            self.refused(NoText, *WORKS, "order", "beat 1 9", row)
            self.refused(NoText, *WORKS, "order", row, "beat 1 9")

    def test_another_row_behind_the_order(self):
        for row in ("Beat 1 9", "beats 1 9", "1 9", "none", ":", "take show"):
            self.refused(NoText, *WORKS, "order", row)

    def test_a_beat_row_of_another_number_of_words(self):
        for row in ("beat", "beat 1", "beat 1 9 0", "beat 1 9 0 0"):
            self.refused(NoText, *WORKS, "order", row)
            self.refused(NoText, *WORKS, "order", "beat 1 9", row)
        self.refused(NoText, "order", "beat 0")
        self.refused(NoText, "box a 1 0", "order", "beat 0")
        self.refused(NoText, "door a 1", "order", "beat")

    def test_numbers(self):
        for number in ("01", "00", "-1", "+1", "x", "1.0", "1" * 21, "0" * 20, "take"):
            self.refused(NoText, *WORKS, "order", "beat 1 " + number)
            self.refused(NoText, *WORKS, "order", f"beat {number} 9")
            self.refused(NoText, *WORKS, "order", "beat 1 9", "beat 1 " + number)

    def test_blanks_and_line_ends(self):
        for order in (" order", "order ", "order  take show", "order take  show", "order take show ", ""):
            self.refused(NoText, *WORKS, order)
        for beat in (" beat 1 9", "beat 1 9 ", "beat  1 9", "beat 1  9", ""):
            self.refused(NoText, *WORKS, "order", beat)
            self.refused(NoText, *WORKS, "order", beat, "beat 1 9")
        self.refused(NoText, "", *WORKS, "order", "beat 1 9")
        self.refused(NoText, *WORKS, "", "order", "beat 1 9")
        self.refused(NoText, "", "order")
        self.refused(NoText, "order", "")

    def test_a_works_not_so_written(self):
        self.refused(NoText, "box a 1", "order")
        self.refused(NoText, "door b 1", "box a 1 0", "order")
        self.refused(NoText, "set a num 1 0", "order")
        self.refused(NoText, "rule a num 1", "order a")


class OthersTest(RefusedCase):
    def test_what_is_refused_of_a_works(self):
        self.refused(NoName, "box A 1 0", "order")
        self.refused(Twice, "box a 1 0", "door a 1", "order")
        self.refused(NoWidth, "door a 65", "order")
        self.refused(NoWord, "box a 1 2", "order")
        self.refused(TooMany, *["rule x num 1 0"] * 9, "order")
        self.refused(Unknown, "rule a box b", "order a")
        self.refused(Unlike, "rule a num 2 0", "order a")

    def test_what_is_no_order(self):
        for names in ("take", "show", "take show take", "take take", "show show take", "take none", "take show none",
                      "Take show", "full item", "0", "~ ~", "order", "beat 1 9"):
            self.refused(NoOrder, *WORKS, "order " + names)
            self.refused(NoOrder, *WORKS, "order " + names, "beat 1 9")
        self.refused(NoOrder, "order take")
        self.refused(NoOrder, "box a 1 0", "order a")

    def test_a_ring(self):
        self.refused(Ring, *RING, "order b a")
        self.refused(Ring, *RING, "order b a", "beat", "beat")
        for order in ("order a b", "order"):
            self.assertEqual(answer(said(*RING, order, "beat")), "a b : x 1 y 1")

    def test_numbers_that_are_no_words(self):
        for row in ("beat 2 0", "beat 1 16", "beat 0 17", "beat 99999999999999999999 0", "beat 0 99999999999999999999"):
            self.refused(NoWord, *WORKS, "order", row)
            self.refused(NoWord, *WORKS, "order", "beat 1 9", "beat 1 15", row)
            self.refused(NoWord, *WORKS, "order show take", row, "beat 1 9")
        self.refused(NoWord, "door a 64", "order", "beat 18446744073709551616")
        answer(said(*WORKS, "order", "beat 1 15", "beat 0 0"))


class FirstRefusalTest(RefusedCase):
    def test_the_text_goes_first(self):
        bad_works = ["box A 0 9", *WORKS]
        for order in ("order", "order none", "order take show"):
            self.refused(NoText, *bad_works, order, "beat 9 99", "none")
            self.refused(NoText, *bad_works, order, "beat 9 99", "beat 1")
            self.refused(NoText, *bad_works, order, order)
            self.refused(NoText, *bad_works, "none", order, "beat 9 99")
        self.refused(NoText, *RING, "order b a", "beat 0")
        self.refused(NoText, *WORKS, "order none", "beat 01 9")
        self.refused(NoText, *WORKS, "order", "beat 2 0", "beat 1 1 1")
        self.refused(NoText, *WORKS, "order", "beat 1 1 1", "beat 2 0")

    def test_door_rows_are_counted_where_they_are_refused_too(self):
        self.refused(NoText, "door A 1", "door A 1", "order", "beat 1")
        self.refused(NoName, "door A 1", "door A 1", "order", "beat 1 1")
        self.refused(Twice, "door a 1", "door a 1", "order", "beat 9 9")
        self.refused(TooMany, *["door a 1"] * 7, "order", "beat 0 0 0 0 0 0 0")
        self.refused(NoText, *["door a 1"] * 7, "order", "beat 0 0 0 0 0 0")

    def test_then_what_is_refused_of_a_works(self):
        self.refused(NoName, "box A 1 0", *WORKS, "order none", "beat 9 99")
        self.refused(Unlike, *WORKS, "rule z num 2 0", "order none", "beat 9 99")
        self.refused(NoWidth, "box z 0 0", *RING, "order b a")
        self.refused(Twice, *RING, "rule a num 1 1", "order b a")

    def test_then_the_order_then_the_ring(self):
        self.refused(NoOrder, *WORKS, "order none", "beat 9 99")
        self.refused(NoOrder, *RING, "order b a b")
        self.refused(NoOrder, *RING, "order b")
        self.refused(Ring, *RING, "order b a")

    def test_words_at_the_doors_come_last(self):
        works = [*RING[:2], "door d 1", *RING[2:]]
        self.refused(Ring, *works, "order b a", "beat 2")
        self.refused(NoOrder, *works, "order b", "beat 2")
        self.refused(NoWord, *works, "order a b", "beat 2")
        self.refused(NoWord, *works, "order", "beat 1", "beat 2")
        self.refused(NoWord, *works, "order", "beat 2", "beat 1")


if __name__ == "__main__":
    unittest.main()
