"""Points 23 and 24: nets of gates, and what their rows settle as."""

import copy
import itertools
import random
import unittest

from beatwright.gates import Net, settle
from tests.samples import ins_of, row_faults

NO, YES = ("no",), ("yes",)


def mixes(names):
    """Every mix of 0 and 1 for the bits of so many names."""
    for bits in itertools.product([0, 1], repeat=len(names)):
        yield dict(zip(names, bits))


def asked_net(many):
    """A net with so many "in" rows, and all places of its rows."""
    net = Net()
    return net, [0, 1] + [net.asked("box", "a", place) for place in range(many)]


def bit_by_row(rows, place, ins):
    """What a row settles as, told from what it names, from the end on back."""
    row = rows[place]
    if row in (NO, YES):
        return [NO, YES].index(row)
    if row[0] == "in":
        return ins[row[1:]]
    first, second = [bit_by_row(rows, other, ins) for other in row[1:]]
    return int(first == second == 1) if row[0] == "and" else int(first != second)


class NetCase(unittest.TestCase):
    def is_net(self, net):
        rows = net.told()
        self.assertIs(type(rows), list)
        self.assertEqual({type(row) for row in rows}, {tuple})
        self.assertEqual(row_faults(rows), [])
        return rows


class AskedTest(NetCase):
    def test_a_new_net(self):
        self.assertEqual(Net().told(), [NO, YES])

    def test_a_new_row(self):
        net = Net()
        self.assertEqual(net.asked("box", "a", 0), 2)
        self.assertEqual(net.told(), [NO, YES, ("in", "box", "a", 0)])
        self.assertEqual(net.asked("door", "a", 63), 3)
        self.assertEqual(net.told(), [NO, YES, ("in", "box", "a", 0), ("in", "door", "a", 63)])

    def test_a_second_time(self):
        net = Net()
        bits = list(itertools.product(["box", "door", "some sort"], ["a", "b", "", "in"], [0, 1, 2, 99]))
        places = [net.asked(*bit) for bit in bits]
        rows = self.is_net(net)
        self.assertEqual(len(rows), 2 + len(bits))
        self.assertEqual([rows[place] for place in places], [("in", *bit) for bit in bits])
        self.assertEqual([net.asked(*bit) for bit in reversed(bits)], places[::-1])
        self.assertEqual(net.told(), rows)

    def test_behind_gates(self):
        net = Net()
        first, second = net.asked("box", "a", 0), net.asked("box", "b", 0)
        gate = net.both(first, second)
        third = net.asked("box", "c", 0)
        self.assertGreater(third, gate)
        self.assertEqual(net.told()[third], ("in", "box", "c", 0))
        self.assertEqual([net.asked("box", name, 0) for name in "abc"], [first, second, third])
        self.is_net(net)

    def test_names_that_are_words_of_rows(self):
        net = Net()
        places = [net.asked(*bit) for bit in [("and", "xor", 1), ("in", "and", 0), ("no", "yes", 0)]]
        self.assertEqual(len(set(places) - {0, 1}), 3)
        self.is_net(net)


class GatesTest(NetCase):
    def test_two_bits(self):
        net, (_, _, one, other) = asked_net(2)
        both, differ = net.both(one, other), net.differ(other, one)
        self.assertNotEqual(both, differ)
        self.assertEqual(len(ins_of(self.is_net(net))), 2)
        for first, second in itertools.product([0, 1], repeat=2):
            bits = settle(net.told(), {("box", "a", 0): first, ("box", "a", 1): second})
            self.assertEqual((bits[one], bits[other]), (first, second))
            self.assertEqual((bits[both], bits[differ]), (first & second, first ^ second))

    def test_every_two_places(self):
        # Each place settles as what is asked for, with rows 0 and 1, the same place twice, and either order.
        for many in range(4):
            net, places = asked_net(many)
            places += [net.both(*places[-2:]), net.differ(*places[-2:]), net.differ(1, places[-1])]
            told = {}
            for pair in itertools.product(places, repeat=2):
                told[pair] = (net.both(*pair), net.differ(*pair))
            rows = self.is_net(net)
            self.assertEqual(len(ins_of(rows)), many)
            for ins in mixes(ins_of(rows)):
                bits = settle(rows, ins)
                for (i, j), (both, differ) in told.items():
                    self.assertEqual(bits[both], bits[i] & bits[j], (many, i, j))
                    self.assertEqual(bits[differ], bits[i] ^ bits[j], (many, i, j))
            for (i, j), pair in told.items():
                self.assertEqual((net.both(i, j), net.differ(i, j)), pair)
                self.assertEqual((net.both(j, i), net.differ(j, i)), pair)
            self.assertEqual(net.told(), rows)

    def test_of_rows_0_and_1_alone(self):
        net = Net()
        for i, j in itertools.product([0, 1], repeat=2):
            both, differ = net.both(i, j), net.differ(i, j)
            bits = settle(self.is_net(net), {})
            self.assertEqual((bits[both], bits[differ]), (i & j, i ^ j))
        self.assertEqual(ins_of(net.told()), [])

    def test_a_net_that_grows(self):
        # What was told of the rows before stays as it was.
        net, (_, _, one, other) = asked_net(2)
        rows = net.told()
        for step in [(net.both, one, other), (net.differ, one, 1), (net.differ, 3, 4), (net.both, 5, 2)]:
            before = rows
            place = step[0](*step[1:])
            rows = self.is_net(net)
            self.assertEqual(rows[:len(before)], before)
            self.assertLess(place, len(rows))
            self.assertIs(type(place), int)

    def test_drawn_nets(self):
        chance = random.Random(23)
        for _ in range(60):
            net, places = asked_net(chance.randrange(1, 5))
            puts = []
            for _ in range(chance.randrange(1, 25)):
                i, j = chance.choice(places), chance.choice(places)
                way = chance.choice([Net.both, Net.differ])
                puts.append((way, i, j, way(net, i, j)))
                places.append(puts[-1][3])
            rows = self.is_net(net)
            for ins in mixes(ins_of(rows)):
                bits = settle(rows, ins)
                for way, i, j, place in puts:
                    asked = bits[i] & bits[j] if way == Net.both else bits[i] ^ bits[j]
                    self.assertEqual(bits[place], asked)
            for way, i, j, place in puts:
                self.assertEqual(way(net, i, j), place)
            self.assertEqual(net.told(), rows)


class OwnTest(NetCase):
    def test_what_is_told_is_the_askers_own(self):
        net, (_, _, one, other) = asked_net(2)
        gate = net.both(one, other)
        rows = net.told()
        asked = list(rows)
        self.assertIsNot(net.told(), rows)
        rows.append("more")
        rows[0] = "else"
        self.assertEqual(net.told(), asked)
        net.told().clear()
        self.assertEqual(net.told(), asked)
        self.assertEqual(net.both(one, other), gate)
        self.assertEqual(net.told(), asked)
        self.assertGreater(net.differ(one, other), 1)
        self.assertEqual(net.told()[:len(asked)], asked)
        self.is_net(net)

    def test_what_was_told_does_not_grow(self):
        net, (_, _, one, other) = asked_net(2)
        rows = net.told()
        before = list(rows)
        net.both(one, other)
        net.asked("box", "z", 0)
        self.assertEqual(rows, before)

    def test_two_nets_are_apart(self):
        net, another = Net(), Net()
        net.both(net.asked("box", "a", 0), net.asked("box", "b", 0))
        rows = net.told()
        self.assertEqual(another.told(), [NO, YES])
        self.assertEqual(another.asked("door", "x", 5), 2)
        self.assertEqual(net.told(), rows)
        self.assertEqual(Net().told(), [NO, YES])


class SettleTest(unittest.TestCase):
    # With rows that a net need not put: beside rows 0 and 1, and of a bit that no other row names.
    ROWS = [
        NO, YES, ("in", "box", "a", 0), ("and", 0, 1), ("xor", 0, 1), ("in", "door", "a", 0), ("and", 2, 5),
        ("xor", 2, 5), ("xor", 1, 7), ("and", 0, 2), ("and", 1, 2), ("xor", 1, 2), ("in", "box", "a", 1), ("and", 6, 8),
        ("xor", 0, 12), ("and", 3, 4), ("xor", 4, 11),
    ]

    def test_rows_by_hand(self):
        self.assertEqual(settle([NO, YES], {}), [0, 1])
        rows = [NO, YES, ("in", "box", "a", 0), ("in", "box", "b", 7), ("and", 2, 3), ("xor", 2, 3), ("xor", 1, 4)]
        for first, second in itertools.product([0, 1], repeat=2):
            told = settle(rows, {("box", "a", 0): first, ("box", "b", 7): second})
            self.assertEqual(told, [0, 1, first, second, first & second, first ^ second, 1 - (first & second)])

    def test_row_by_row_of_a_list_and_of_a_tuple(self):
        self.assertEqual(row_faults(self.ROWS), [])
        for ins in mixes(ins_of(self.ROWS)):
            asked = [bit_by_row(self.ROWS, place, ins) for place in range(len(self.ROWS))]
            for rows in (list(self.ROWS), tuple(self.ROWS)):
                told = settle(rows, ins)
                self.assertIs(type(told), list)
                self.assertEqual({type(bit) for bit in told}, {int})
                self.assertEqual(told, asked)

    def test_drawn_rows(self):
        chance = random.Random(24)
        for _ in range(60):
            rows = [NO, YES] + [("in", "box", "ab"[place % 2], place) for place in range(chance.randrange(5))]
            while len(rows) < 16:
                row = (chance.choice(["and", "xor"]), *sorted(chance.sample(range(len(rows)), 2)))
                if row not in rows:
                    rows.append(row)
            self.assertEqual(row_faults(rows), [])
            for ins in mixes(ins_of(rows)):
                self.assertEqual(settle(rows, ins), [bit_by_row(rows, place, ins) for place in range(16)])

    def test_bits_are_told_apart_by_sort_name_and_place(self):
        bits = list(itertools.product(["box", "door"], ["a", "b"], [0, 1]))
        rows = [NO, YES] + [("in", *bit) for bit in bits]
        for ins in mixes(bits):
            self.assertEqual(settle(rows, ins), [0, 1] + [ins[bit] for bit in bits])

    def test_bits_that_no_row_asks_for(self):
        ins = {("box", "a", 0): 1, ("door", "a", 0): 0, ("box", "a", 1): 1}
        more = {**ins, ("box", "b", 0): 7, ("door", "a", 1): "none", ("more", "a", 0): None}
        self.assertEqual(settle(self.ROWS, more), settle(self.ROWS, ins))
        self.assertEqual(settle([NO, YES], more), [0, 1])

    def test_what_is_handed_in_stays(self):
        rows, ins = list(self.ROWS), {bit: 1 for bit in ins_of(self.ROWS)}
        handed = copy.deepcopy((rows, ins))
        told = settle(rows, ins)
        asked = list(told)
        self.assertEqual((rows, ins), handed)
        told.clear()
        self.assertEqual((rows, ins), handed)
        told = settle(rows, ins)
        rows.clear()
        ins.clear()
        self.assertEqual(told, asked)

    def test_nothing_is_kept_from_an_earlier_asking(self):
        net, (_, _, one, other) = asked_net(2)
        gate = net.both(one, other)
        ins = {("box", "a", 0): 1, ("box", "a", 1): 1}
        self.assertEqual(settle(net.told(), ins)[gate], 1)
        ins[("box", "a", 1)] = 0
        self.assertEqual(settle(net.told(), ins)[gate], 0)


if __name__ == "__main__":
    unittest.main()
