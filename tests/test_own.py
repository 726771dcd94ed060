"""Point 1, of every function: nothing handed in is changed or kept, and what is told is the asker's own."""

import copy
import importlib
import unittest

from beatwright.gates import Net
from beatwright.lays import lay
from beatwright.lines import line
from beatwright.plans import own_plan, plan
from beatwright.texts import shown
from beatwright.wires import wired
from beatwright.works import first_words, made
from tests.samples import YES
from tests.test_interface import FUNCTIONS

LINE = line(4, ["slide", "short"], [("plus", 3), ("xor", 5), ("minus", 1)])
NAMES = ["worka", "workb", "workc"]
DOORS = {"has": 1, "thing": 9}
NOW = dict(first_words(LINE), fulla=1, itema=7)
PLAN = plan(LINE, NAMES)
SMALL = line(1, ["calm"], [("plus", 1), ("or", 0)])

# Two rules that clash in either order, and need one another in a ring where "put" stands ahead.
CLASHING = made([("a", 2, 0), ("b", 2, 0), ("c", 2, 1)], [("go", 1)], [
    ("get", ("or", ("part", ("late", "c"), 0, 1), ("same", ("box", "a"), ("num", 2, 0))), [("b", ("box", "a"))]),
    ("put", ("door", "go"), [("a", ("box", "b")), ("c", ("num", 2, 2))]),
])
STILL = made([("a", 1, 0)], [], [("idle", YES, [])])
TERM = ("pick", ("door", "go"), ("plus", ("box", "a"), ("late", "a")), ("num", 2, 3))
NET_ROWS = [("no",), ("yes",), ("in", "box", "a", 0), ("in", "box", "a", 1), ("and", 2, 3)]

# For each function some rows of arguments.
ASKED = {
    "is_width": [(64,)],
    "fits": [(4, 15)],
    "cut": [(4, -1)],
    "bits_of": [(4, 6)],
    "word_of": [([0, 1, 1],), ([],)],
    "size_of": [(TERM,)],
    "width_of": [(TERM, {"a": 2}, {"go": 1})],
    "reads": [(TERM,), (YES,)],
    "worth": [(TERM, ({"a": 2}, {"go": 1}), {"a": 1}, {"a": 3}, {"go": 1})],
    "made": [([("a", 2, 1)], [("go", 1)], [("up", ("door", "go"), [("a", ("num", 2, 3))]), ("no", YES, [])]),
             ([], [], [])],
    "rule_of": [(LINE, "workb")],
    "widths_of": [(LINE,)],
    "first_words": [(LINE,)],
    "can": [(LINE, "workb", NOW, DOORS)],
    "do": [(LINE, "workb", NOW, DOORS), (STILL, "idle", {"a": 1}, {})],
    "do_row": [(LINE, ["workb", "workc", "worka"], NOW, DOORS), (LINE, [], NOW, DOORS)],
    "dim": [(TERM, {"a": [0, 2]}, {"a": [1, 0]}, {"go": [2]}), (("box", "a"), {"a": [0, 2]}, {}, {}),
            (("pick", ("door", "go"), ("late", "a"), ("box", "a")), {"a": [0, 2]}, {"a": [1, 0]}, {"go": [1]})],
    "asked_bits": [(LINE, "worka", "workb")],
    "never_both": [(LINE, "worka", "workb"), (CLASHING, "get", "put"), (SMALL, "worka", "workb")],
    "written": [(LINE, "workb")],
    "read_early": [(LINE, "workb")],
    "read_late": [(LINE, "workc")],
    "clash": [(CLASHING, "get", "put"), (CLASHING, "put", "get"), (LINE, "workc", "worka")],
    "clashes_of": [(CLASHING, ["put", "get"]), (LINE, NAMES)],
    "table": [(CLASHING,)],
    "cheapest": [(CLASHING,), (LINE,)],
    "needs": [(CLASHING, ["get", "put"]), (CLASHING, ["put", "get"])],
    "ring": [(CLASHING, ["put", "get"]), (LINE, NAMES)],
    "settling": [(CLASHING, ["get", "put"])],
    "plan": [(CLASHING, ["get", "put"]), (LINE, NAMES)],
    "own_plan": [(CLASHING,)],
    "beat": [(CLASHING, own_plan(CLASHING), first_words(CLASHING), {"go": 1}), (LINE, PLAN, NOW, DOORS),
             (LINE, PLAN, first_words(LINE), {"has": 0, "thing": 0})],
    "run": [(LINE, PLAN, [DOORS, DOORS, {"has": 0, "thing": 0}, {"has": 0, "thing": 0}]), (LINE, PLAN, [])],
    "settle": [(NET_ROWS, {("box", "a", 0): 1, ("box", "a", 1): 0})],
    "wired": [(LINE, PLAN)],
    "tick": [(LINE, wired(LINE, PLAN), NOW, DOORS), (STILL, wired(STILL, own_plan(STILL)), {"a": 1}, {})],
    "line": [(4, ["slide", "short"], [("plus", 3), ("xor", 5), ("minus", 1)])],
    "reached": [(SMALL, 300), (SMALL, 1)],
    "kept": [(SMALL, YES, 300), (SMALL, ("not", ("box", "shown")), 300), (SMALL, YES, 1)],
    "shown": [(LINE,)],
    "read": [(shown(LINE),), ("",)],
    "answer": [(shown(LINE) + "\norder worka workb workc\nbeat 1 9\nbeat 0 0",)],
}


def changeable(value):
    """All lists and dicts in a value, itself too."""
    if isinstance(value, dict):
        inner = [*value.keys(), *value.values()]
    else:
        inner = value if isinstance(value, (list, tuple)) else []
    own = [value] if isinstance(value, (list, dict)) else []
    return own + [found for part in inner for found in changeable(part)]


def spoil(value):
    """Each list and dict in a value is emptied, and something else put into it."""
    for found in changeable(value):
        found.clear()
        if isinstance(found, list):
            found.append("spoilt")
        else:
            found["spoilt"] = 1


def functions():
    """Each function of the interface, by its name; classes are looked at by their own tests."""
    for file, forms in FUNCTIONS.items():
        for form in forms:
            name = form.partition("(")[0]
            if not name[0].isupper():
                yield name, getattr(importlib.import_module("beatwright." + file), name)


class OwnTest(unittest.TestCase):
    def rows(self):
        return [(function, copy.deepcopy(arguments)) for name, function in functions() if name != "lay"
                for arguments in ASKED[name]]

    def test_all_functions_are_asked(self):
        self.assertEqual({name for name, _ in functions()} - {"lay"}, set(ASKED))

    def test_what_is_handed_in_is_not_changed(self):
        for function, arguments in self.rows():
            handed = copy.deepcopy(arguments)
            function(*arguments)
            self.assertEqual(arguments, handed, function)

    def test_what_is_handed_in_is_not_kept(self):
        for function, arguments in self.rows():
            handed = copy.deepcopy(arguments)
            told = function(*arguments)
            asked = copy.deepcopy(told)
            spoil(arguments)
            self.assertEqual(told, asked, function)
            self.assertEqual(function(*handed), asked, function)

    def test_what_is_told_is_a_new_one(self):
        for function, arguments in self.rows():
            one, other = function(*arguments), function(*arguments)
            parts = [id(found) for found in changeable(one) + changeable(other)]
            self.assertEqual(len(set(parts)), len(parts), function)
            self.assertEqual(set(parts) & {id(found) for found in changeable(arguments)}, set(), function)

    def test_what_is_told_is_the_askers_own(self):
        for function, arguments in self.rows():
            told = function(*arguments)
            asked = copy.deepcopy(told)
            handed = copy.deepcopy(arguments)
            spoil(told)
            self.assertEqual(arguments, handed, function)
            self.assertEqual(function(*arguments), asked, function)

    def test_nothing_asked_later_changes_what_was_told(self):
        told = [function(*arguments) for function, arguments in self.rows()]
        asked = copy.deepcopy(told)
        again = [function(*arguments) for function, arguments in self.rows()]
        self.assertEqual(told, asked)
        self.assertEqual(again, asked)


class LayTest(unittest.TestCase):
    """A net grows by what is laid into it, and so is looked at by itself."""

    def test_the_places_told_are_the_askers_own(self):
        for term in (TERM, ("box", "a"), ("late", "a"), ("pick", ("door", "go"), ("box", "a"), ("box", "a"))):
            net = Net()
            early = {"a": [net.asked("box", "a", place) for place in range(2)]}
            late = {"a": [net.asked("late", "a", place) for place in range(2)]}
            doors = {"go": [net.asked("door", "go", 0)]}
            handed = copy.deepcopy((early, late, doors))
            told = lay(net, term, early, late, doors)
            asked = list(told)
            rows = net.told()
            spoil(told)
            self.assertEqual((early, late, doors), handed)
            self.assertEqual(lay(net, term, early, late, doors), asked)
            self.assertEqual(net.told(), rows)
            told = lay(net, term, early, late, doors)
            spoil((early, late, doors))
            self.assertEqual(told, asked)


if __name__ == "__main__":
    unittest.main()
