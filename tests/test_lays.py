"""Point 25: terms laid into a net settle as the bits of their worths."""

import copy
import itertools
import random
import unittest

from beatwright.gates import Net, settle
from beatwright.lays import lay
from beatwright.terms import size_of, width_of, worth
from beatwright.words import bits_of, word_of
from tests.samples import (
    BOXES, DOORS, EACH_FORM, FORMS_OF_TWO, drawn_term, drawn_words, ins_of, nested, row_faults, tree,
)

SORTS = ("early", "late", "door")
# Words whose bits carry far.
EDGES = [0, 1, 2 ** 63, 2 ** 64 - 1, 2 ** 63 - 1, 2 ** 32, 0x5555555555555555, 0xAAAAAAAAAAAAAAAA]


def all_words(widths):
    """Every mix of words of a dict from names to widths."""
    for words in itertools.product(*[range(2 ** width) for width in widths.values()]):
        yield dict(zip(widths, words))


class LayCase(unittest.TestCase):
    def laid(self, term, widths):
        """A net, the places told for a term, and how the words of what it reads are handed in as bits."""
        boxes, doors = widths
        net = Net()
        places = [{name: [net.asked(sort, name, place) for place in range(named[name])] for name in named}
                  for sort, named in zip(SORTS, (boxes, boxes, doors))]
        asked = net.told()
        handed = copy.deepcopy(places)
        told = lay(net, term, *places)
        self.assertIs(type(told), list)
        self.assertEqual({type(place) for place in told}, {int})
        self.assertEqual(len(told), width_of(term, boxes, doors), term)
        self.assertEqual(places, handed)
        rows = net.told()
        self.assertEqual(rows[:len(asked)], asked)
        self.assertEqual(row_faults(rows), [])
        self.assertEqual(ins_of(rows), ins_of(asked))
        self.assertEqual(lay(net, term, *places), told)
        self.assertEqual(net.told(), rows)
        return rows, told

    def bits_of_words(self, widths, early, late, doors):
        boxes, gates = widths
        ins = {}
        for sort, named, words in zip(SORTS, (boxes, boxes, gates), (early, late, doors)):
            for name, width in named.items():
                ins.update({(sort, name, place): bit for place, bit in enumerate(bits_of(width, words[name]))})
        return ins

    def holds(self, term, widths, rows_of_words):
        rows, told = self.laid(term, widths)
        for words in rows_of_words:
            bits = settle(rows, self.bits_of_words(widths, *words))
            asked = worth(term, widths, *words)
            self.assertEqual([bits[place] for place in told], bits_of(len(told), asked), (term, words))


class FormsTest(LayCase):
    def test_each_form_with_drawn_words(self):
        chance = random.Random(25)
        for term, _, _, width in EACH_FORM:
            with self.subTest(form=term[0]):
                words = [[drawn_words(chance, widths) for widths in (BOXES, BOXES, DOORS)] for _ in range(12)]
                self.holds(term, (BOXES, DOORS), words)

    def test_forms_of_two_with_all_words(self):
        for width in [1, 2, 3]:
            boxes = {"a": width, "b": width}
            words = [[early, {"a": 0, "b": 0}, {}] for early in all_words(boxes)]
            for form in FORMS_OF_TWO + ["join"]:
                self.holds((form, ("box", "a"), ("box", "b")), (boxes, {}), words)

    def test_not_pick_and_part_with_all_words(self):
        for width in [1, 2, 3]:
            boxes, doors = {"a": width}, {"c": 1, "d": width}
            words = [[early, early, gates] for early in all_words(boxes) for gates in all_words(doors)]
            self.holds(("not", ("box", "a")), (boxes, doors), words)
            self.holds(("pick", ("door", "c"), ("late", "a"), ("door", "d")), (boxes, doors), words)
            for low in range(width):
                for many in range(1, width - low + 1):
                    self.holds(("part", ("box", "a"), low, many), (boxes, doors), words)

    def test_numbers(self):
        for width in [1, 2, 3, 4]:
            for word in range(2 ** width):
                self.holds(("num", width, word), ({}, {}), [[{}, {}, {}]])
        for word in EDGES:
            self.holds(("num", 64, word), ({}, {}), [[{}, {}, {}]])

    def test_early_late_and_door_are_told_apart(self):
        # A box and a door of one name are no works, but terms are laid for any names.
        widths = ({"a": 2}, {"a": 2})
        words = [[{"a": word} for word in three] for three in itertools.product(range(4), repeat=3)]
        for form in ["box", "late", "door"]:
            self.holds((form, "a"), widths, words)
        self.holds(("pick", ("less", ("box", "a"), ("late", "a")), ("door", "a"), ("late", "a")), widths, words)

    def test_every_width(self):
        for width in range(1, 65):
            boxes = {"a": width, "b": width}
            pairs = [(word, other) for word in EDGES[:4] + EDGES[6:] for other in EDGES[:4] + EDGES[6:]]
            words = [[{"a": word % 2 ** width, "b": other % 2 ** width}, {"a": 0, "b": 0}, {}] for word, other in pairs]
            for form in FORMS_OF_TWO:
                self.holds((form, ("box", "a"), ("box", "b")), (boxes, {}), words)

    def test_width_64_with_carries_all_the_way(self):
        boxes = {"a": 64, "b": 64}
        words = [[{"a": word, "b": other}, {"a": other, "b": word}, {}] for word in EDGES for other in EDGES]
        for form in FORMS_OF_TWO:
            self.holds((form, ("box", "a"), ("late", "a")), (boxes, {}), words)
            self.holds((form, ("box", "a"), ("box", "a")), (boxes, {}), words)
        larger = ("pick", ("less", ("box", "a"), ("box", "b")), ("box", "b"), ("not", ("late", "b")))
        self.holds(larger, (boxes, {}), words)

    def test_joins_and_parts_of_64(self):
        chance = random.Random(64)
        boxes = {"a": 64, "b": 63, "c": 1}
        words = [[drawn_words(chance, boxes), drawn_words(chance, boxes), {}] for _ in range(6)]
        for term in [
            ("join", ("box", "b"), ("late", "c")), ("join", ("late", "c"), ("box", "b")), ("part", ("box", "a"), 0, 64),
            ("part", ("box", "a"), 63, 1), ("part", ("box", "a"), 0, 1), ("part", ("late", "a"), 1, 63),
            ("join", ("part", ("box", "a"), 0, 32), ("part", ("box", "a"), 32, 32)),
        ]:
            self.holds(term, (boxes, {}), words)


class WholeTermsTest(LayCase):
    def test_the_largest_terms_let_by(self):
        boxes, leaf = {"a": 3}, ("box", "a")
        words = [[early, {"a": 0}, {}] for early in all_words(boxes)]
        for term in [nested(12, leaf), nested(11, leaf), tree(99, leaf), tree(100, leaf)]:
            self.holds(term, (boxes, {}), words)

    def test_few_bits_with_all_words(self):
        chance = random.Random(250)
        boxes, doors = {"a": 1, "b": 2}, {"x": 2}
        words = [[early, late, gates] for early in all_words(boxes) for late in all_words(boxes)
                 for gates in all_words(doors)]
        for _ in range(60):
            term = drawn_term(chance, chance.choice([1, 2, 3]), chance.randrange(2, 5), boxes, doors)
            self.holds(term, (boxes, doors), words)

    def test_drawn_terms_of_many_bits(self):
        chance = random.Random(251)
        largest = 0
        for _ in range(250):
            width = chance.choice([1, 1, 2, 4, 63, 64, chance.randrange(1, 65)])
            term = drawn_term(chance, width, chance.randrange(1, 7), BOXES, DOORS)
            if size_of(term)[0] > 100:
                continue
            largest = max(largest, size_of(term)[0])
            words = [[drawn_words(chance, widths) for widths in (BOXES, BOXES, DOORS)] for _ in range(4)]
            self.holds(term, (BOXES, DOORS), words)
        self.assertGreater(largest, 60)


class PlacesTest(LayCase):
    def test_places_of_rows_0_and_1(self):
        chance = random.Random(252)
        boxes, doors = {"a": 1, "b": 2}, {"x": 2}
        for _ in range(120):
            term = drawn_term(chance, chance.choice([1, 2]), chance.randrange(1, 5), boxes, doors)
            words = [drawn_words(chance, widths) for widths in (boxes, boxes, doors)]
            places = [{name: bits_of(widths[name], words[number][name]) for name in widths}
                      for number, widths in enumerate((boxes, boxes, doors))]
            net = Net()
            told = lay(net, term, *places)
            rows = net.told()
            self.assertEqual(row_faults(rows), [])
            self.assertEqual(ins_of(rows), [])
            bits = settle(rows, {})
            self.assertEqual(word_of([bits[place] for place in told]), worth(term, (boxes, doors), *words), term)

    def test_whatever_places(self):
        # The same places for several names, rows 0 and 1, bits out of their row, and rows of gates.
        chance = random.Random(253)
        boxes, doors = {"a": 1, "b": 2, "c": 4}, {"x": 2, "y": 4}
        for _ in range(150):
            net = Net()
            rows = [0, 1] + [net.asked("some", "bit", place) for place in range(3)]
            for _ in range(6):
                rows.append(chance.choice([net.both, net.differ])(chance.choice(rows), chance.choice(rows)))
            places = [{name: [chance.choice(rows) for _ in range(width)] for name, width in widths.items()}
                      for widths in (boxes, boxes, doors)]
            handed = copy.deepcopy(places)
            term = drawn_term(chance, chance.choice([1, 2, 4]), chance.randrange(1, 5), boxes, doors)
            told = lay(net, term, *places)
            self.assertEqual(places, handed)
            grown = net.told()
            self.assertEqual(row_faults(grown), [])
            self.assertEqual(len(ins_of(grown)), 3)
            for mix in itertools.product([0, 1], repeat=3):
                bits = settle(grown, {("some", "bit", place): bit for place, bit in enumerate(mix)})
                words = [{name: word_of([bits[row] for row in named[name]]) for name in named} for named in places]
                self.assertEqual(word_of([bits[place] for place in told]), worth(term, (boxes, doors), *words))
            self.assertEqual(lay(net, term, *places), told)
            self.assertEqual(net.told(), grown)

    def test_one_place_for_two_names(self):
        net = Net()
        places = [net.asked("box", "a", place) for place in range(4)]
        for form, word in [("same", 1), ("less", 0), ("minus", 0), ("xor", 0)]:
            told = lay(net, (form, ("box", "a"), ("late", "b")), {"a": places}, {"b": places}, {})
            for number in range(16):
                ins = {("box", "a", place): bit for place, bit in enumerate(bits_of(4, number))}
                bits = settle(net.told(), ins)
                self.assertEqual(word_of([bits[place] for place in told]), word, form)

    def test_several_terms_in_one_net(self):
        chance = random.Random(254)
        boxes = {"a": 2, "b": 2}
        net = Net()
        early = {name: [net.asked("early", name, place) for place in range(2)] for name in boxes}
        terms = [drawn_term(chance, 2, 4, boxes, {}) for _ in range(20)]
        told = [lay(net, term, early, early, {}) for term in terms]
        rows = net.told()
        self.assertEqual([lay(net, term, early, early, {}) for term in reversed(terms)], told[::-1])
        self.assertEqual(net.told(), rows)
        for words in all_words(boxes):
            bits = settle(rows, {("early", name, place): bit for name in boxes
                                 for place, bit in enumerate(bits_of(2, words[name]))})
            for term, places in zip(terms, told):
                self.assertEqual(word_of([bits[place] for place in places]), worth(term, (boxes, {}), words, words, {}))


class NamesTest(LayCase):
    TERM = ("pick", ("door", "g"), ("plus", ("box", "a"), ("late", "b")), ("door", "d"))

    def places(self, net):
        early, late = {"a": [net.asked("early", "a", 0)]}, {"b": [net.asked("late", "b", 0)]}
        return [early, late, {"g": [net.asked("door", "g", 0)], "d": [net.asked("door", "d", 0)]}]

    def test_names_that_are_not_read(self):
        net, another = Net(), Net()
        told = lay(net, self.TERM, *self.places(net))
        early, late, doors = self.places(another)
        early.update(b=[99], z="none", d=None)
        late.update(a=[-1], z=7)
        doors.update(a=[10 ** 9], z=[])
        handed = copy.deepcopy((early, late, doors))
        self.assertEqual(lay(another, self.TERM, early, late, doors), told)
        self.assertEqual(another.told(), net.told())
        self.assertEqual((early, late, doors), handed)

    def test_a_number_reads_nothing(self):
        net = Net()
        self.assertEqual(lay(net, ("num", 3, 6), {}, {}, {}), [0, 1, 1])
        self.assertEqual(net.told(), Net().told())

    def test_what_is_told_is_the_askers_own(self):
        for form in [("box", "a"), ("late", "a"), ("door", "a"), ("part", ("box", "a"), 0, 2),
                     ("join", ("box", "a"), ("door", "a")), ("num", 2, 1), ("not", ("not", ("late", "a")))]:
            net = Net()
            places = [{"a": [net.asked(sort, "a", place) for place in range(2)]} for sort in SORTS]
            handed = copy.deepcopy(places)
            told = lay(net, form, *places)
            asked = list(told)
            told.append(99)
            told[0] = 77
            self.assertEqual(places, handed)
            self.assertEqual(lay(net, form, *places), asked)
            told = lay(net, form, *places)
            for named in places:
                named["a"].clear()
                named.clear()
            self.assertEqual(told, asked)
            self.assertEqual(lay(net, form, *handed), asked)

    def test_places_are_looked_at_anew(self):
        net = Net()
        one, other = net.asked("early", "a", 0), net.asked("early", "a", 1)
        early = {"a": [one]}
        self.assertEqual(lay(net, ("box", "a"), early, {}, {}), [one])
        early["a"] = [other]
        self.assertEqual(lay(net, ("box", "a"), early, {}, {}), [other])


if __name__ == "__main__":
    unittest.main()
