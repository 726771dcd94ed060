"""Points 34 and 35: a works written as a text, and read again."""

import copy
import random
import re
import unittest

from beatwright.errors import NoName, NoText, NoWidth, NoWord, TooMany, Twice, Unknown, Unlike
from beatwright.lines import line
from beatwright.texts import read, shown
from beatwright.works import made
from tests.samples import (
    BOXES, DOORS, EACH_FORM, FORMS_OF_TWO, MANY_BITS, NO, YES, all_sorts, drawn_stations, drawn_works, nested, tree,
)

NONE = made([], [], [])
WORKS = made([("left", 4, 3), ("busy", 1, 0)], [("go", 1), ("by", 4)], [
    ("start", ("and", ("door", "go"), ("not", ("box", "busy"))), [("busy", YES), ("left", ("late", "left"))]),
    ("idle", ("num", 1, 1), []),
    ("end", ("box", "busy"), [("left", ("part", ("join", ("box", "left"), ("door", "by")), 2, 4)), ("busy", NO)]),
])
ROWS = [
    "box left 4 3", "box busy 1 0", "door go 1", "door by 4", "rule start and door go not box busy", "set busy num 1 1",
    "set left late left", "rule idle num 1 1", "rule end box busy", "set left part 2 4 join box left door by",
    "set busy num 1 0",
]
TEXT = "\n".join(ROWS)


def with_row(place, row):
    """The text with another row in the place of one of its own."""
    return "\n".join(ROWS[:place] + [row] + ROWS[place + 1:])


def with_more(place, *rows):
    """The text with more rows ahead of a place."""
    return "\n".join([*ROWS[:place], *rows, *ROWS[place:]])


def moved(place, other):
    """The text with one row taken out and put elsewhere."""
    rows = ROWS[:place] + ROWS[place + 1:]
    return "\n".join(rows[:other] + [ROWS[place]] + rows[other:])


class TextCase(unittest.TestCase):
    def refused(self, error, text):
        with self.subTest(text=text):
            with self.assertRaises(error) as caught:
                read(text)
            self.assertIs(type(caught.exception), error)

    def there_and_back(self, works):
        text = shown(works)
        self.assertIs(type(text), str)
        self.assertEqual(read(text), works)
        self.assertEqual(shown(read(text)), text)
        return text


class ShownTest(TextCase):
    def test_a_works(self):
        self.assertEqual(shown(WORKS), TEXT)
        self.assertEqual(read(TEXT), WORKS)

    def test_none_at_all(self):
        self.assertEqual(shown(NONE), "")
        self.assertEqual(read(""), NONE)

    def test_without_boxes_without_doors_without_rules(self):
        cases = {
            "box a 64 18446744073709551615": made([("a", 64, 2 ** 64 - 1)], [], []),
            "door b 64": made([], [("b", 64)], []),
            "rule c num 1 0": made([], [], [("c", NO, [])]),
            "box a 1 0\ndoor b 1": made([("a", 1, 0)], [("b", 1)], []),
            "box a 1 0\nrule c box a\nset a num 1 0": made([("a", 1, 0)], [], [("c", ("box", "a"), [("a", NO)])]),
            "door b 1\nrule c door b": made([], [("b", 1)], [("c", ("door", "b"), [])]),
        }
        for text, works in cases.items():
            self.assertEqual(self.there_and_back(works), text)

    def test_each_form(self):
        written = [
            "num 5 17", "box four", "late two", "door gate", "not box four", "and box four door gate",
            "or box four late four", "xor num 2 3 late two", "plus box wide late wide", "minus door pair box two",
            "less box four num 4 9", "same box wide num 64 9", "pick door flag box four num 4 0",
            "join box four late two", "part 3 7 box wide",
        ]
        self.assertEqual(len({text.split(" ")[0] for text in written}), 15)
        for (term, *_, width), text in zip(EACH_FORM, written, strict=True):
            boxes = [(name, wide, 0) for name, wide in BOXES.items()] + [("to", width, 0)]
            works = made(boxes, list(DOORS.items()), [("do", YES, [("to", term)])])
            self.assertEqual(self.there_and_back(works).split("\n")[-2:], ["rule do num 1 1", "set to " + text])

    def test_forms_within_forms(self):
        term = ("pick", ("less", ("box", "a"), ("late", "b")), ("part", ("not", ("join", ("box", "a"), NO)), 1, 2),
                ("minus", ("door", "d"), ("num", 2, 3)))
        works = made([("a", 2, 0), ("b", 2, 0)], [("d", 2)], [("do", YES, [("a", term)])])
        self.assertEqual(self.there_and_back(works).split("\n")[-1],
                         "set a pick less box a late b part 1 2 not join box a num 1 0 minus door d num 2 3")

    def test_names_that_are_words_of_the_rows_too(self):
        # Words are told apart by where they stand, not by what they are.
        boxes = [("box", 1, 0), ("set", 1, 1), ("not", 1, 0), ("and", 1, 0), ("num", 1, 1)]
        works = made(boxes, [("door", 1), ("rule", 1)], [
            ("late", ("and", ("box", "and"), ("late", "not")), [("set", ("door", "door")), ("box", ("box", "box"))]),
            ("part", ("door", "rule"), [("num", ("num", 1, 0))]),
        ])
        self.assertEqual(self.there_and_back(works), "\n".join([
            "box box 1 0", "box set 1 1", "box not 1 0", "box and 1 0", "box num 1 1", "door door 1", "door rule 1",
            "rule late and box and late not", "set set door door", "set box box box", "rule part door rule",
            "set num num 1 0"]))

    def test_the_largest_terms(self):
        for term in (nested(12, YES), tree(100, ("box", "a")), ("not", ("part", ("num", 64, 2 ** 64 - 1), 63, 1))):
            self.there_and_back(made([("a", 1, 0)], [], [("do", term, [("a", term)])]))

    def test_lines(self):
        chance = random.Random(28)
        for sorts in chance.sample(all_sorts(range(1, 6)), 30):
            width = chance.choice([1, 4, 64])
            self.there_and_back(line(width, sorts, drawn_stations(chance, width, len(sorts) + 1)))

    def test_drawn_works(self):
        chance = random.Random(34)
        forms = set()
        for number in range(150):
            rules = chance.randrange(0, 9)
            works = drawn_works(chance, rules, 5) if number % 3 else drawn_works(chance, rules, 5, MANY_BITS)
            forms |= set(self.there_and_back(works).replace("\n", " ").split(" "))
        self.assertLessEqual({term[0][0] for term in EACH_FORM}, forms)

    def test_what_is_handed_in_stays(self):
        handed = copy.deepcopy(WORKS)
        self.assertEqual(shown(WORKS), shown(WORKS))
        self.assertEqual(WORKS, handed)


class BlanksTest(TextCase):
    def test_rows_without_a_word(self):
        for text in ("\n", "\n\n", " ", "  ", " \n ", "box a 1 0\n\nbox b 1 0", "\nbox a 1 0",
                     "box a 1 0\n \ndoor b 1"):
            self.refused(NoText, text)
        for place in range(len(ROWS) + 1):
            self.refused(NoText, with_more(place, ""))

    def test_a_blank_at_the_begin_or_the_end(self):
        for place, row in enumerate(ROWS):
            self.refused(NoText, with_row(place, " " + row))
            self.refused(NoText, with_row(place, row + " "))

    def test_two_blanks(self):
        for place, row in enumerate(ROWS):
            for at in [at for at, sign in enumerate(row) if sign == " "]:
                self.refused(NoText, with_row(place, row[:at] + " " + row[at:]))

    def test_no_blank_or_no_line_end(self):
        for text in ("boxa 1 0", "box a1 0", "box a 10", "box a 1 0box b 1 0", "doora 1", "door a1", "rulea num 1 0",
                     "rule anum 1 0", "rule a num10", "rule a notnum 1 0", "rule a num 1 0set a num 1 0"):
            self.refused(NoText, text)

    def test_a_line_end_in_the_place_of_a_blank_and_the_other_way_round(self):
        for at, sign in enumerate(TEXT):
            if sign in " \n":
                self.refused(NoText, TEXT[:at] + {" ": "\n", "\n": " "}[sign] + TEXT[at + 1:])

    def test_line_ends_at_the_end(self):
        self.refused(NoText, TEXT + "\n")
        self.refused(NoText, TEXT + "\n\n")
        self.refused(NoText, "\n" + TEXT)


class WordsTest(TextCase):
    def test_another_word_at_a_rows_begin(self):
        for word in ("Box", "boxes", "late", "num", "order", "beat", "rules", "x", "0", ":", "-", "BOX", "not"):
            for place, row in enumerate(ROWS):
                self.refused(NoText, with_row(place, " ".join([word] + row.split(" ")[1:])))
                self.refused(NoText, with_more(place, word))
            self.refused(NoText, word)

    def test_another_word_in_the_place_of_a_form(self):
        for word in ("And", "nor", "rule", "set", "busy", "0", "1", "plusx", "~", "("):
            self.refused(NoText, with_row(4, f"rule start {word} door go not box busy"))
            self.refused(NoText, with_row(4, f"rule start and {word} go not box busy"))
            self.refused(NoText, with_row(4, f"rule start and door go {word} box busy"))
            self.refused(NoText, with_row(9, f"set left part 2 4 {word} box left door by"))

    def test_a_word_too_few(self):
        for place, row in enumerate(ROWS):
            words = row.split(" ")
            for many in range(1, len(words)):
                self.refused(NoText, with_row(place, " ".join(words[:many])))

    def test_a_word_too_many(self):
        for place, row in enumerate(ROWS):
            for word in ("0", "7", "x", "box", "num", "box busy", "num 1 0", "~"):
                self.refused(NoText, with_row(place, row + " " + word))

    def test_words_too_few_within_each_form(self):
        whole = ["num 1 0", "box a", "late a", "door d", "not box a", "pick box a box a box a", "part 0 1 box a",
                 "join box a box a"] + [form + " box a box a" for form in FORMS_OF_TWO]
        self.assertEqual(len(whole), 15)
        for form in whole:
            words = form.split(" ")
            read("box a 1 0\ndoor d 1\nrule r same " + form + " " + form)
            for many in range(len(words)):
                text = "box a 1 0\ndoor d 1\nrule r " + " ".join(words[:many])
                self.refused(NoText, text.rstrip(" "))
                self.refused(NoText, "box a 1 0\ndoor d 1\nrule r " + " ".join(["not"] + words[:many]))
            self.refused(NoText, "box a 1 0\ndoor d 1\nrule r " + " ".join(words + words))

    def test_names_and_numbers_at_the_place_of_the_other(self):
        self.refused(NoText, "box 1 a 0")
        self.refused(NoText, "box a b 0")
        self.refused(NoText, "box a 4 b")
        self.refused(NoText, "door a b")
        self.refused(NoText, "rule a num x 0")
        self.refused(NoText, "rule a num 1 x")
        self.refused(NoText, "rule a part x 1 num 1 0")
        self.refused(NoText, "rule a part 0 x num 1 0")
        self.refused(NoText, "rule a part num 1 0 0 1")


class PlacesTest(TextCase):
    def test_each_row_elsewhere(self):
        # Boxes may change places, and doors, and rules with their writes: all else is at another place than told.
        self.refused(NoText, moved(0, 2))
        self.refused(NoText, moved(2, 0))
        self.refused(NoText, moved(2, 1))
        self.refused(NoText, moved(0, 4))
        self.refused(NoText, moved(3, 4))
        self.refused(NoText, moved(1, 10))
        self.refused(NoText, moved(3, 10))
        self.refused(NoText, moved(4, 3))
        self.refused(NoText, moved(5, 4))
        self.refused(NoText, moved(5, 0))
        self.refused(NoText, moved(4, 10))
        for text in (moved(0, 1), moved(2, 3), moved(7, 4), moved(5, 6)):
            read(text)

    def test_a_set_without_a_rule(self):
        for text in ("set a num 1 0", "box a 1 0\nset a num 1 0", "box a 1 0\ndoor b 1\nset a num 1 0",
                     "box a 1 0\nset a num 1 0\nrule c num 1 0", "door b 1\nset a num 1 0"):
            self.refused(NoText, text)

    def test_a_box_or_a_door_behind_a_rule_or_a_set(self):
        for row in ("box z 1 0", "door z 1"):
            for place in range(5, len(ROWS) + 1):
                self.refused(NoText, with_more(place, row))

    def test_a_set_belongs_to_the_rule_ahead_of_it(self):
        works = read("box a 1 0\nrule x num 1 0\nset a num 1 0\nrule y num 1 1\nset a num 1 1\nrule z num 1 0")
        self.assertEqual(works[2], (("x", NO, (("a", NO),)), ("y", YES, (("a", YES),)), ("z", NO, ())))


class NumbersTest(TextCase):
    TEXTS = ("box a {} 0", "box a 4 {}", "door a {}", "rule a num {} 0", "rule a num 1 {}", "rule a part {} 1 num 1 0",
             "rule a part 0 {} num 1 0", "box a 1 0\nrule b num 1 0\nset a num {} 0",
             "box a 1 0\nrule b num 1 0\nset a num 1 {}")

    def test_how_numbers_are_not_written(self):
        for number in ("00", "01", "007", "0" * 20, "0" * 21, "1" * 21, "9" * 21, "184467440737095516150", "-1", "+1",
                       "-0", "+", "-", "1.0", "1e3", "1_0", "0x1", "0b1", "1,0", "a", "1a", "a1", "'1'", "()", "True",
                       "1:", "/1", ":", "1/1", "1" + "0" * 299):
            for text in self.TEXTS:
                self.refused(NoText, text.replace("{}", number))

    def test_an_empty_number(self):
        for text in self.TEXTS:
            self.refused(NoText, text.replace("{}", ""))
            self.refused(NoText, text.replace(" {}", ""))

    def test_what_is_so_written_is_no_fault_of_the_text(self):
        for number in ("0", "1", "10", "65", "100", "18446744073709551616", "9" * 20, "1" + "0" * 19):
            for text in self.TEXTS:
                try:
                    read(text.replace("{}", number))
                except (NoWidth, NoWord, Unlike):
                    pass

    def test_nought_itself_and_twenty_figures(self):
        self.assertEqual(read("box a 1 0"), made([("a", 1, 0)], [], []))
        self.assertEqual(read("rule a part 0 1 num 10 1000")[2][0][1], ("part", ("num", 10, 1000), 0, 1))
        self.assertEqual(read("box a 64 18446744073709551615")[0], (("a", 64, 2 ** 64 - 1),))
        self.refused(NoWord, "box a 64 18446744073709551616")
        self.refused(NoWord, "box a 64 99999999999999999999")
        self.refused(NoText, "box a 64 100000000000000000000")
        self.refused(NoWidth, "box a 99999999999999999999 0")
        self.refused(NoWidth, "box a 0 0")


class NamesTest(TextCase):
    def test_any_word_is_read_as_a_name(self):
        for name in ("A", "abcdefghi", "a1", "0", "-", "~", "a_b", "x" * 300, "!", "'", "box2", "a\\nb", "{}", "()"):
            self.refused(NoName, f"box {name} 1 0")
            self.refused(NoName, f"door {name} 1")
            self.refused(NoName, f"rule {name} num 1 0")
            self.refused(Unknown, f"rule a num 1 0\nset {name} num 1 0")
            for form in ("box", "late", "door"):
                self.refused(Unknown, f"rule a {form} {name}")

    def test_eight_letters(self):
        self.assertEqual(read("box abcdefgh 1 0")[0], (("abcdefgh", 1, 0),))


class RefusalsOfWorksTest(TextCase):
    def test_too_many(self):
        letters = "abcdefghijklm"
        read("\n".join([f"box {letter} 1 0" for letter in letters[:12]]))
        self.refused(TooMany, "\n".join([f"box {letter} 1 0" for letter in letters]))
        read("\n".join([f"door {letter} 1" for letter in letters[:6]]))
        self.refused(TooMany, "\n".join([f"door {letter} 1" for letter in letters[:7]]))
        read("\n".join([f"rule {letter} num 1 0" for letter in letters[:8]]))
        self.refused(TooMany, "\n".join([f"rule {letter} num 1 0" for letter in letters[:9]]))
        boxes = [f"box {letter} 1 0" for letter in letters[:7]]
        sets = [f"set {letter} num 1 0" for letter in letters[:7]]
        read("\n".join(boxes + ["rule z num 1 0"] + sets[:6]))
        self.refused(TooMany, "\n".join(boxes + ["rule z num 1 0"] + sets))
        self.refused(TooMany, "rule a " + "not " * 12 + "num 1 0")
        self.refused(TooMany, "rule a " + "not " * 59 + "num 1 0")
        self.refused(TooMany, "box a 1 0\nrule b num 1 0\nset a " + "not " * 12 + "num 1 0")

    def test_the_others(self):
        self.refused(Twice, "box a 1 0\nbox a 1 0")
        self.refused(Twice, "box a 1 0\ndoor a 1")
        self.refused(Twice, "door a 1\nrule a num 1 0")
        self.refused(Twice, "box a 1 0\nrule b num 1 0\nset a num 1 0\nset a num 1 0")
        self.refused(NoWidth, "box a 65 0")
        self.refused(NoWidth, "door a 0")
        self.refused(NoWidth, "rule a num 0 0")
        self.refused(NoWidth, "rule a part 1 1 num 1 0")
        self.refused(NoWord, "box a 2 4")
        self.refused(NoWord, "rule a num 1 2")
        self.refused(Unlike, "rule a num 2 1")
        self.refused(Unlike, "box a 2 0\nrule b num 1 0\nset a num 1 0")
        self.refused(Unlike, "rule a same num 1 0 num 2 0")

    def test_the_first_of_them(self):
        self.refused(NoWidth, "box a 0 5\nbox A 1 0")
        self.refused(NoName, "box A 0 5\nbox b 0 5")
        self.refused(Twice, "box a 1 0\nbox a 0 5")
        self.refused(NoWord, "box a 1 2\ndoor a 0\nrule a num 0 0")
        self.refused(Unknown, "rule a box nobody\nset a num 0 0")
        self.refused(Unlike, "rule a num 2 0\nset a num 0 0")
        self.refused(Unknown, "rule a num 1 0\nset a num 0 0")
        self.refused(TooMany, "\n".join([f"box A{number} 0 9" for number in range(13)]))


NUMBER = "(0|[1-9][0-9]{0,19})"
OWN_WORDS = {"num": "nn", "box": "w", "late": "w", "door": "w", "part": "nn"}
HELD = {"num": 0, "box": 0, "late": 0, "door": 0, "not": 1, "part": 1, "pick": 3}


def is_term(words):
    """Whether words write a term, told by counting the terms that are still to come."""
    lacking = 1
    while lacking > 0 and words:
        form, *words = words
        if form not in HELD and form not in [*FORMS_OF_TWO, "join"]:
            return False
        lacking += HELD.get(form, 2) - 1
        for sort in OWN_WORDS.get(form, ""):
            if not words or sort == "n" and not re.fullmatch(NUMBER, words[0]):
                return False
            words = words[1:]
    return lacking == 0 and not words


def is_so_written(text):
    """Whether a text writes some works, let by or not."""
    sorts = ""
    for row in text.split("\n") if text else []:
        if re.fullmatch(f"box [!-~]+ {NUMBER} {NUMBER}", row):
            sorts += "b"
        elif re.fullmatch(f"door [!-~]+ {NUMBER}", row):
            sorts += "d"
        elif re.fullmatch("(rule|set) [!-~]+ [!-~]+( [!-~]+)*", row) and is_term(row.split(" ")[2:]):
            sorts += row[0]
        else:
            return False
    return re.fullmatch("b*d*(r[rs]*)?", sorts) is not None


class DrawnTextsTest(TextCase):
    def test_drawn_changes(self):
        chance = random.Random(35)
        seen = {False: 0, True: 0}
        for _ in range(3000):
            text = self.changed(chance, shown(drawn_works(chance, chance.randrange(1, 4))))
            written = is_so_written(text)
            seen[written] += 1
            try:
                works = read(text)
            except NoText:
                self.assertFalse(written, text)
            except (NoName, NoWidth, NoWord, TooMany, Twice, Unknown, Unlike):
                self.assertTrue(written, text)
            else:
                self.assertTrue(written, text)
                self.assertEqual(shown(works), text)
        self.assertGreater(min(seen.values()), 300)

    def changed(self, chance, text):
        """A sign, a word or a row of the text is left out, said again, put elsewhere, or become another one."""
        sign = chance.choice(["", " ", "\n"])
        if sign == "":
            at = chance.randrange(len(text))
            return text[:at] + chance.choice(["", " ", "\n", "0", "1", "a", "~", text[at] * 2]) + text[at + 1:]
        parts = text.replace("\n", " \n ").split(" ") if sign == " " else text.split("\n")
        at, other = chance.randrange(len(parts)), chance.randrange(len(parts))
        part = parts[at] if chance.randrange(2) else parts.pop(at)
        if chance.randrange(3):
            parts.insert(other, part)
        return sign.join(parts).replace(" \n ", "\n")


class FirstRefusalTest(TextCase):
    FAULTS = ["box A 1 0", "box left 1 0", "box z 0 0", "box z 1 2"]

    def test_a_text_not_so_written_goes_ahead_of_all_else(self):
        for row in self.FAULTS:
            self.assertRaises((NoName, Twice, NoWidth, NoWord), read, with_more(2, row))
            for place in range(len(ROWS) + 2):
                self.refused(NoText, "\n".join([*with_more(2, row).split("\n")[:place], "none",
                                                *with_more(2, row).split("\n")[place:]]))
            self.refused(NoText, with_more(2, row) + "\n")

    def test_within_one_row(self):
        self.refused(NoText, "box A 0 01")
        self.refused(NoText, "box a 65 x")
        self.refused(NoText, "door A 0 0")
        self.refused(NoText, "rule A num 0")
        self.refused(NoText, "rule a num 1 2 3")
        self.refused(NoText, "rule a and num 1 2 none")
        self.refused(NoText, "rule a part 9 9 num 1 01")

    def test_ahead_of_too_many(self):
        boxes = "\n".join([f"box {letter} 1 0" for letter in "abcdefghijklm"])
        self.refused(TooMany, boxes)
        self.refused(NoText, boxes + "\n")
        self.refused(NoText, boxes + "\nset a num 1 0")
        self.refused(NoText, "rule a " + "not " * 20 + "num 1")
        self.refused(NoText, "rule a " + "not " * 20 + "num 1 0\nbox a 1 0")


if __name__ == "__main__":
    unittest.main()
