"""Points 28 to 30: the works of a line, and which lines are refused."""

import copy
import itertools
import random
import unittest

from beatwright.errors import NoLine, NoWidth, NoWord
from beatwright.lines import line
from tests.samples import NO, STATION_WORDS, YES, all_sorts, drawn_stations


def left(sort, letter):
    """The term that tells whether a pipe can be left."""
    return ({"calm": "box", "slide": "box", "short": "late"}[sort], "full" + letter)


def entered(sort, letter):
    """The term that tells whether a pipe can be entered."""
    return ("not", ({"calm": "box", "slide": "late", "short": "box"}[sort], "full" + letter))


def thing(sort, letter):
    """The term of the thing in a pipe."""
    return ({"calm": "box", "slide": "box", "short": "late"}[sort], "item" + letter)


class WholeTest(unittest.TestCase):
    """Lines that are written out whole."""

    def test_one_calm_pipe(self):
        self.assertEqual(line(4, ["calm"], [("plus", 3), ("xor", 15)]), (
            (("fulla", 1, 0), ("itema", 4, 0), ("shown", 4, 0)),
            (("has", 1), ("thing", 4)),
            (
                ("worka", ("and", ("door", "has"), ("not", ("box", "fulla"))), (
                    ("fulla", ("num", 1, 1)), ("itema", ("plus", ("door", "thing"), ("num", 4, 3))))),
                ("workb", ("box", "fulla"), (
                    ("fulla", ("num", 1, 0)), ("shown", ("xor", ("box", "itema"), ("num", 4, 15))))),
            ),
        ))

    def test_one_slide_pipe(self):
        rules = line(8, ["slide"], [("minus", 255), ("and", 0)])[2]
        self.assertEqual(rules, (
            ("worka", ("and", ("door", "has"), ("not", ("late", "fulla"))), (
                ("fulla", ("num", 1, 1)), ("itema", ("minus", ("door", "thing"), ("num", 8, 255))))),
            ("workb", ("box", "fulla"), (
                ("fulla", ("num", 1, 0)), ("shown", ("and", ("box", "itema"), ("num", 8, 0))))),
        ))

    def test_one_short_pipe(self):
        rules = line(1, ["short"], [("or", 1), ("minus", 0)])[2]
        self.assertEqual(rules, (
            ("worka", ("and", ("door", "has"), ("not", ("box", "fulla"))), (
                ("fulla", ("num", 1, 1)), ("itema", ("or", ("door", "thing"), ("num", 1, 1))))),
            ("workb", ("late", "fulla"), (
                ("fulla", ("num", 1, 0)), ("shown", ("minus", ("late", "itema"), ("num", 1, 0))))),
        ))

    def test_three_pipes(self):
        most = 2 ** 64 - 1
        self.assertEqual(line(64, ["short", "slide", "calm"], [("or", most), ("plus", 0), ("minus", 9), ("and", 7)]), (
            (("fulla", 1, 0), ("itema", 64, 0), ("fullb", 1, 0), ("itemb", 64, 0), ("fullc", 1, 0), ("itemc", 64, 0),
             ("shown", 64, 0)),
            (("has", 1), ("thing", 64)),
            (
                ("worka", ("and", ("door", "has"), ("not", ("box", "fulla"))), (
                    ("fulla", ("num", 1, 1)), ("itema", ("or", ("door", "thing"), ("num", 64, most))))),
                ("workb", ("and", ("late", "fulla"), ("not", ("late", "fullb"))), (
                    ("fulla", ("num", 1, 0)), ("fullb", ("num", 1, 1)),
                    ("itemb", ("plus", ("late", "itema"), ("num", 64, 0))))),
                ("workc", ("and", ("box", "fullb"), ("not", ("box", "fullc"))), (
                    ("fullb", ("num", 1, 0)), ("fullc", ("num", 1, 1)),
                    ("itemc", ("minus", ("box", "itemb"), ("num", 64, 9))))),
                ("workd", ("box", "fullc"), (
                    ("fullc", ("num", 1, 0)), ("shown", ("and", ("box", "itemc"), ("num", 64, 7))))),
            ),
        ))


class PartsTest(unittest.TestCase):
    """Each part of drawn lines, of every mix of sorts."""

    def lines(self):
        chance = random.Random(28)
        for sorts in all_sorts(range(1, 6)):
            width = chance.choice([1, 2, 3, 8, 63, 64])
            stations = drawn_stations(chance, width, len(sorts) + 1)
            yield width, sorts, stations, line(width, list(sorts), list(stations))

    def test_boxes_and_doors(self):
        for width, sorts, _, works in self.lines():
            boxes = []
            for letter in "abcde"[:len(sorts)]:
                boxes += [("full" + letter, 1, 0), ("item" + letter, width, 0)]
            self.assertEqual(works[0], (*boxes, ("shown", width, 0)))
            self.assertEqual(works[1], (("has", 1), ("thing", width)))

    def test_names_of_the_rules(self):
        for _, sorts, _, works in self.lines():
            self.assertEqual([rule[0] for rule in works[2]], ["work" + letter for letter in "abcdef"[:len(sorts) + 1]])

    def test_the_first_station(self):
        for width, sorts, stations, works in self.lines():
            word, number = stations[0]
            self.assertEqual(works[2][0], ("worka", ("and", ("door", "has"), entered(sorts[0], "a")), (
                ("fulla", YES), ("itema", (word, ("door", "thing"), ("num", width, number))))))

    def test_stations_between(self):
        for width, sorts, stations, works in self.lines():
            for place in range(1, len(sorts)):
                word, number = stations[place]
                one, other = "abcde"[place - 1], "abcde"[place]
                guard = ("and", left(sorts[place - 1], one), entered(sorts[place], other))
                worked = (word, thing(sorts[place - 1], one), ("num", width, number))
                self.assertEqual(works[2][place], ("work" + other, guard, (
                    ("full" + one, NO), ("full" + other, YES), ("item" + other, worked))))

    def test_the_last_station(self):
        for width, sorts, stations, works in self.lines():
            word, number = stations[-1]
            letter = "abcde"[len(sorts) - 1]
            worked = (word, thing(sorts[-1], letter), ("num", width, number))
            self.assertEqual(works[2][-1], ("work" + "abcdef"[len(sorts)], left(sorts[-1], letter), (
                ("full" + letter, NO), ("shown", worked))))

    def test_each_word_at_each_place(self):
        for many in range(1, 6):
            for place, word in itertools.product(range(many + 1), STATION_WORDS):
                stations = [("plus" if word != "plus" else "xor", 0) for _ in range(many + 1)]
                stations[place] = (word, 1)
                works = line(2, ["calm"] * many, stations)
                told = [rule[2][-1][1] for rule in works[2]]
                self.assertEqual([(term[0], term[2]) for term in told],
                                 [(other, ("num", 2, number)) for other, number in stations])

    def test_each_width(self):
        for width in range(1, 65):
            top = 2 ** width - 1
            works = line(width, ["slide"], [("xor", top), ("plus", 0)])
            self.assertEqual([box[1] for box in works[0]], [1, width, width])
            self.assertEqual([door[1] for door in works[1]], [1, width])
            self.assertEqual([rule[2][1][1][2] for rule in works[2]], [("num", width, top), ("num", width, 0)])

    def test_stations_alike_and_unlike(self):
        stations = [("plus", 1), ("plus", 1), ("minus", 1)]
        told = [rule[2][-1][1] for rule in line(3, ["calm", "calm"], stations)[2]]
        self.assertEqual(told, [("plus", ("door", "thing"), ("num", 3, 1)), ("plus", ("box", "itema"), ("num", 3, 1)),
                                ("minus", ("box", "itemb"), ("num", 3, 1))])


class RefusedCase(unittest.TestCase):
    def refused(self, error, width, sorts, stations):
        handed = copy.deepcopy((sorts, stations))
        with self.subTest(width=width, sorts=sorts, stations=stations):
            with self.assertRaises(error) as caught:
                line(width, sorts, stations)
            self.assertIs(type(caught.exception), error)
            self.assertEqual((sorts, stations), handed)


class RefusedTest(RefusedCase):
    def test_widths(self):
        for width in (0, -1, -64, 65, 66, 1000, 10 ** 299):
            self.refused(NoWidth, width, ["calm"], [("plus", 0), ("plus", 0)])
        for width in (1, 64):
            line(width, ["calm"], [("plus", 0), ("plus", 0)])

    def test_how_many_pipes(self):
        for many in (0, 6, 7, 12):
            self.refused(NoLine, 4, ["slide"] * many, [("plus", 0)] * (many + 1))
        for many in (1, 5):
            line(4, ["slide"] * many, [("plus", 0)] * (many + 1))

    def test_sorts_that_are_none(self):
        for sort in ("", "Calm", "calm ", "still", "slides", "shor", "plus", "box"):
            for place in range(3):
                sorts = ["calm", "slide", "short"]
                sorts[place] = sort
                self.refused(NoLine, 4, sorts, [("plus", 0)] * 4)
            self.refused(NoLine, 4, [sort], [("plus", 0)] * 2)

    def test_how_many_stations(self):
        for many in range(1, 6):
            for stations in (0, 1, many - 1, many, many + 2, many + 3):
                if stations != many + 1:
                    self.refused(NoLine, 4, ["short"] * many, [("plus", 0)] * stations)

    def test_words_that_are_none(self):
        for word in ("", "Plus", "plus ", "not", "less", "same", "join", "pick", "part", "num", "times", "calm"):
            for place in range(3):
                stations = [("plus", 1), ("and", 2), ("or", 3)]
                stations[place] = (word, 3)
                self.refused(NoLine, 4, ["calm", "calm"], stations)

    def test_numbers_that_are_no_words(self):
        for width in (1, 2, 4, 63, 64):
            for number in (-1, -2 ** width, 2 ** width, 2 ** width + 1, 2 ** 70, 10 ** 299):
                for place in range(3):
                    stations = [("plus", 0), ("and", 1), ("or", 2 ** width - 1)]
                    stations[place] = ("xor", number)
                    self.refused(NoWord, width, ["calm", "calm"], stations)
            line(width, ["calm", "calm"], [("plus", 0), ("and", 1), ("or", 2 ** width - 1)])


class FirstRefusalTest(RefusedCase):
    def test_the_width_goes_first(self):
        for sorts, stations in (([], [("plus", 0)]), (["none"], [("plus", 0), ("plus", 0)]), (["calm"], [("plus", 0)]),
                                (["calm"], [("none", 0), ("plus", 0)]), (["calm"], [("plus", -1), ("plus", 0)]),
                                ([], []), (["calm"], [("plus", 0), ("plus", 2 ** 65)])):
            self.refused(NoWidth, 0, sorts, stations)
            self.refused(NoWidth, 65, sorts, stations)

    def test_sorts_and_how_many_stations_go_ahead_of_numbers(self):
        self.refused(NoLine, 4, [], [("plus", 16)])
        self.refused(NoLine, 4, ["calm"] * 6, [("plus", 16)] * 7)
        self.refused(NoLine, 4, ["calm", "none"], [("plus", 16)] * 3)
        self.refused(NoLine, 4, ["calm"], [("plus", 16)])
        self.refused(NoLine, 4, ["calm"], [("plus", 16)] * 3)

    def test_of_one_station_the_word_goes_ahead_of_the_number(self):
        self.refused(NoLine, 4, ["calm"], [("none", 16), ("plus", 0)])
        self.refused(NoLine, 4, ["calm"], [("plus", 0), ("none", -1)])

    def test_station_by_station(self):
        self.refused(NoWord, 4, ["calm"], [("plus", 16), ("none", 0)])
        self.refused(NoLine, 4, ["calm"], [("none", 0), ("plus", 16)])
        self.refused(NoWord, 4, ["calm", "slide"], [("plus", 0), ("or", -1), ("none", 0)])
        self.refused(NoLine, 4, ["calm", "slide"], [("plus", 0), ("none", 0), ("or", -1)])
        self.refused(NoWord, 4, ["calm", "slide"], [("plus", 16), ("or", 0), ("none", 0)])


class OwnTest(unittest.TestCase):
    def test_what_is_handed_in_stays(self):
        sorts, stations = ["calm", "short"], [("plus", 1), ("xor", 2), ("or", 3)]
        handed = copy.deepcopy((sorts, stations))
        works = line(2, sorts, stations)
        self.assertEqual((sorts, stations), handed)
        sorts.clear()
        stations.clear()
        self.assertEqual(works, line(2, *handed))

    def test_all_is_of_tuples(self):
        def kinds(told):
            self.assertIn(type(told), (tuple, str, int))
            if type(told) is tuple:
                for part in told:
                    kinds(part)

        kinds(line(5, ["slide", "short", "calm"], [("plus", 1), ("xor", 2), ("or", 3), ("and", 31)]))


if __name__ == "__main__":
    unittest.main()
