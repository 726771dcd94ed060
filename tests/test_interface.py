"""The interface: each function is there under its name, with its arguments."""

import importlib
import inspect
import unittest

FUNCTIONS = {
    "words": ["is_width(number)", "fits(width, number)", "cut(width, number)", "bits_of(width, word)", "word_of(bits)"],
    "terms": ["size_of(T)", "width_of(T, boxes, doors)", "reads(T)", "worth(T, widths, early, late, doors)"],
    "works": ["made(boxes, doors, rules)", "rule_of(works, name)", "widths_of(works)", "first_words(works)"],
    "plain": ["can(works, name, now, doors)", "do(works, name, now, doors)", "do_row(works, names, now, doors)"],
    "dims": ["dim(T, early, late, doors)"],
    "papers": ["asked_bits(works, one, other)", "never_both(works, one, other)"],
    "clashes": [
        "written(works, name)", "read_early(works, name)", "read_late(works, name)", "clash(works, ahead, behind)",
    ],
    "orders": ["clashes_of(works, order)", "table(works)", "cheapest(works)"],
    "plans": [
        "needs(works, order)", "ring(works, order)", "settling(works, order)", "plan(works, order)", "own_plan(works)",
    ],
    "beats": ["beat(works, plan, now, doors)", "run(works, plan, rows)"],
}


class InterfaceTest(unittest.TestCase):
    def test_each_function_and_its_arguments(self):
        for file, forms in FUNCTIONS.items():
            module = importlib.import_module("beatwright." + file)
            for form in forms:
                with self.subTest(file=file, form=form):
                    name = form.partition("(")[0]
                    self.assertEqual(name + str(inspect.signature(getattr(module, name))), form)


if __name__ == "__main__":
    unittest.main()
