"""The interface: each function, class and method is there under its name, with its arguments."""

import importlib
import inspect
import unittest

FUNCTIONS = {
    "words": ["is_width(number)", "fits(width, number)", "cut(width, number)", "bits_of(width, word)", "word_of(bits)"],
    "terms": ["size_of(T)", "width_of(T, boxes, doors)", "reads(T)", "worth(T, widths, early, late, doors)"],
    "works": ["made(boxes, doors, rules)", "rule_of(works, name)", "widths_of(works)", "first_words(works)"],
    "plain": ["can(works, name, now, doors)", "do(works, name, now, doors)", "do_row(works, names, now, doors)"],
    "dims": ["dim(T, early, late, doors)"],
    "papers": ["asked_bits(works, one, other)", "never_both(works, one, other)"],
    "clashes": [
        "written(works, name)", "read_early(works, name)", "read_late(works, name)", "clash(works, ahead, behind)",
    ],
    "orders": ["clashes_of(works, order)", "table(works)", "cheapest(works)"],
    "plans": [
        "needs(works, order)", "ring(works, order)", "settling(works, order)", "plan(works, order)", "own_plan(works)",
    ],
    "beats": ["beat(works, plan, now, doors)", "run(works, plan, rows)"],
    "gates": ["settle(rows, ins)", "Net()"],
    "lays": ["lay(net, T, early, late, doors)"],
    "wires": ["wired(works, plan)", "tick(works, wires, now, doors)"],
    "houses": ["House(works, plan)", "BeatHouse(works, plan)", "WireHouse(works, plan)"],
    "lines": ["line(width, sorts, stations)"],
    "looks": ["reached(works, most)", "kept(works, T, most)"],
    "texts": ["shown(works)", "read(text)"],
    "desk": ["answer(text)"],
}

METHODS = {
    ("gates", "Net"): ["asked(self, sort, name, place)", "both(self, i, j)", "differ(self, i, j)", "told(self)"],
    ("houses", "House"): ["beat(self, doors)", "told(self)"],
    ("houses", "BeatHouse"): ["beat(self, doors)", "told(self)"],
    ("houses", "WireHouse"): ["beat(self, doors)", "told(self)"],
}


class InterfaceTest(unittest.TestCase):
    def has(self, holder, form):
        with self.subTest(holder=holder, form=form):
            name = form.partition("(")[0]
            self.assertEqual(name + str(inspect.signature(getattr(holder, name))), form)

    def test_each_function_and_class_and_its_arguments(self):
        for file, forms in FUNCTIONS.items():
            for form in forms:
                self.has(importlib.import_module("beatwright." + file), form)

    def test_each_method_and_its_arguments(self):
        for (file, name), forms in METHODS.items():
            for form in forms:
                self.has(getattr(importlib.import_module("beatwright." + file), name), form)


if __name__ == "__main__":
    unittest.main()
