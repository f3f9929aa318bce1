"""Points [16], [17] and [19]: the values of gates, the steps in which they become known, and rings of those that wait."""

import itertools
import random
import time
import unittest

import second
from signalwise.gates import ring, steps, values

T, F = True, False
LITTLE_TIME = 5


def net(*gates):
    return (list(gates), [], (0, 0), [])


def start():
    return ("start", ())


def given(sign):
    return ("given", (sign,))


def memory(rest):
    return ("memory", (rest,))


def negated(gate):
    return ("not", (gate,))


def every(*gates):
    return ("all", gates)


def some(*gates):
    return ("some", gates)


class Checking(unittest.TestCase):
    def tells(self, whole, state, coming, told):
        found = values(whole, state, coming)
        self.assertEqual(found, told, whole)
        for value, wanted in zip(found, told):
            self.assertIs(value, wanted)
        self.consistent(whole, state, coming)

    def consistent(self, whole, state, coming):
        known = values(whole, state, coming)
        self.assertEqual(known, second.values(whole, state, coming))
        self.replayed(whole, state, coming, known)
        self.ringed(whole, state, coming, known)

    def replayed(self, whole, state, coming, known):
        """Each step follows from those ahead of it, and they come to the values."""
        ahead = [None] * len(whole[0])
        for step in steps(whole, state, coming):
            self.assertIsInstance(step, tuple)
            gate, value = step
            self.assertIs(ahead[gate], None)
            self.assertIs(second.value_of(whole[0][gate], ahead, state, coming), value)
            ahead[gate] = value
        self.assertEqual(ahead, known)

    def ringed(self, whole, state, coming, known):
        found = ring(whole, state, coming)
        if None not in known:
            self.assertIsNone(found)
            return
        self.assertIsInstance(found, list)
        self.assertTrue(found)
        self.assertEqual(len(found), len(set(found)))
        for place, gate in enumerate(found):
            self.assertIs(known[gate], None)
            self.assertIn(gate, whole[0][found[place - 1]][1])


class EachKind(Checking):
    def test_start(self):
        self.tells(net(start()), None, [], [T])
        for state in ([], [0], [1, 2]):
            self.tells(net(start()), state, [], [F])

    def test_memory(self):
        whole = net(memory(0), memory(1), memory(7))
        self.tells(whole, None, [0, 1, 7], [F, F, F])
        self.tells(whole, [], [0, 1, 7], [F, F, F])
        self.tells(whole, [0], [], [T, F, F])
        self.tells(whole, [1, 7], [], [F, T, T])

    def test_given(self):
        whole = net(given(0), given(1), given(7))
        for state in (None, [], [0, 1, 7]):
            self.tells(whole, state, [], [F, F, F])
            self.tells(whole, state, [0], [T, F, F])
            self.tells(whole, state, [1, 7], [F, T, T])

    def test_numbers_of_rests_and_signs_are_no_gates(self):
        self.tells(net(given(5), memory(9), start()), [9], [5], [T, T, F])
        self.tells(net(given(0), memory(1), memory(0), given(3)), [0], [3], [F, F, T, T])

    def test_not(self):
        self.tells(net(given(0), negated(0), negated(1)), None, [0], [T, F, T])
        self.tells(net(given(0), negated(0), negated(1)), None, [], [F, T, F])

    def test_all_and_some_of_every_values(self):
        """Each row of up to three gates, each True, False or not known."""
        for size in range(4):
            for row in itertools.product((T, F, None), repeat=size):
                gates = [given(0), given(1), some(2)]
                numbers = [{T: 0, F: 1, None: 2}[value] for value in row]
                both = T if all(row) else F if F in row else None
                either = T if T in row else None if None in row else F
                whole = net(*gates, every(*numbers), some(*numbers), negated(3), negated(4))
                flip = {T: F, F: T, None: None}
                self.tells(whole, None, [0], [T, F, None, both, either, flip[both], flip[either]])

    def test_gates_of_none(self):
        self.tells(net(every()), None, [], [T])
        self.tells(net(some()), None, [], [F])
        self.tells(net(some(2), every(3), every(), some()), [], [], [T, F, T, F])

    def test_no_gates_at_all(self):
        self.tells(net(), None, [], [])
        self.assertEqual(steps(net(), None, []), [])
        self.assertIsNone(ring(net(), None, []))

    def test_a_gate_named_twice(self):
        self.tells(net(given(0), every(0, 0), some(0, 0), every(0, 0, 3), some(4, 0, 4, 0)), None, [0], [T, T, T, None, T])
        self.tells(net(given(0), every(0, 0), some(0, 0), every(0, 4, 0), some(0, 4)), None, [], [F, F, F, F, None])
        self.tells(net(given(0), every(0, 0, 2), negated(2), some(0, 0, 2)), None, [0], [T, None, None, T])

    def test_gates_that_name_later_ones(self):
        self.tells(net(negated(1), every(2, 3), some(3, 4), given(0), negated(3)), None, [0], [F, T, T, T, F])
        self.tells(net(negated(1), every(2, 3), some(3, 4), given(0), negated(3)), None, [], [T, F, T, F, T])

    def test_the_other_parts_of_a_net_change_nothing(self):
        gates = [given(0), negated(0)]
        self.assertEqual(values((gates, [0, 1], (1, 1), [0]), None, []), [F, T])
        self.assertEqual(values((gates, [], (0, 1), [1, 1]), None, []), [F, T])


class Rings(Checking):
    def test_gates_in_their_own_numbers(self):
        for gate in (negated(0), every(0), some(0), every(0, 0)):
            self.tells(net(gate), None, [], [None])
            self.assertEqual(ring(net(gate), None, []), [0])
        self.tells(net(every(0, 1), given(0)), None, [], [F, F])
        self.tells(net(every(0, 1), given(0)), None, [0], [None, T])
        self.tells(net(some(0, 1), given(0)), None, [0], [T, T])
        self.tells(net(some(0, 1), given(0)), None, [], [None, F])

    def test_no_ring(self):
        self.assertIsNone(ring(net(given(0), negated(0), every(0, 1)), None, []))

    def test_one_ring(self):
        whole = net(given(0), some(0, 3), negated(1), negated(2))
        self.tells(whole, None, [0], [T, T, F, T])
        self.tells(whole, None, [], [F, None, None, None])
        self.assertIn(ring(whole, None, []), ([1, 3, 2], [3, 2, 1], [2, 1, 3]))

    def test_several_rings(self):
        whole = net(negated(1), negated(0), every(3), some(2), negated(2), every(0, 4, 6), given(0))
        self.tells(whole, None, [0], [None, None, None, None, None, None, T])
        self.assertIn(sorted(ring(whole, None, [0])), ([0, 1], [2, 3]))

    def test_a_ring_far_from_the_first_gate_that_waits(self):
        whole = net(negated(1), every(2, 7), some(6, 3), negated(4), negated(5), every(3), given(0), given(1))
        self.tells(whole, None, [1], [None] * 6 + [F, T])
        self.assertIn(ring(whole, None, [1]), ([3, 4, 5], [4, 5, 3], [5, 3, 4]))

    def test_rings_of_gates_that_are_known_none_the_less(self):
        whole = net(every(1, 2), some(0, 3), given(0), given(1))
        self.tells(whole, None, [], [F, F, F, F])
        self.tells(whole, None, [0], [None, None, T, F])
        self.tells(whole, None, [1], [F, T, F, T])
        self.tells(whole, None, [0, 1], [T, T, T, T])
        self.assertIsNone(ring(whole, None, [1]))
        self.assertEqual(sorted(ring(whole, None, [0])), [0, 1])

    def test_a_known_ring_beside_one_that_waits(self):
        whole = net(every(1, 2), every(0), given(0), every(4, 0), every(3, 1), negated(5), some(5, 0))
        self.tells(whole, None, [], [F, F, F, F, F, None, None])
        self.assertEqual(ring(whole, None, []), [5])

    def test_known_gates_stand_in_no_ring_told(self):
        whole = net(every(2, 1), every(2, 0), given(0), negated(1))
        self.assertEqual(sorted(ring(whole, None, [0])), [0, 1])
        whole = net(every(2, 3, 1), every(2, 0), given(0), some(2, 0))
        self.tells(whole, None, [0], [None, None, T, T])
        self.assertEqual(sorted(ring(whole, None, [0])), [0, 1])


class ManyGates(Checking):
    def in_time(self, whole, state, coming, told):
        began = time.monotonic()
        self.assertEqual(values(whole, state, coming), told)
        self.assertEqual(len(steps(whole, state, coming)), len(told) - told.count(None))
        found = ring(whole, state, coming)
        self.assertLess(time.monotonic() - began, LITTLE_TIME)
        self.replayed(whole, state, coming, told)
        self.ringed(whole, state, coming, told)
        return found

    def test_a_long_row_in_either_order(self):
        for size in (5000, 15000, 20000):
            row = [given(0)] + [negated(gate) for gate in range(size - 1)]
            self.in_time(net(*row), None, [0], [gate % 2 == 0 for gate in range(size)])
            back = [negated(gate + 1) for gate in range(size - 1)] + [given(0)]
            self.in_time(net(*back), None, [0], [(size - 1 - gate) % 2 == 0 for gate in range(size)])

    def test_a_long_row_of_alls_and_somes(self):
        size = 15000
        for coming, value in (([0], T), ([], F)):
            row = [given(0)] + [(every, some)[gate % 2](gate, gate, 0) for gate in range(size - 1)]
            self.in_time(net(*row), None, coming, [value] * size)
            back = [(every, some)[gate % 2](gate + 1, size - 1) for gate in range(size - 1)] + [given(0)]
            self.in_time(net(*back), None, coming, [value] * size)

    def test_a_long_ring(self):
        size = 15000
        for way in (1, -1):
            gates = [negated((gate + way) % size) for gate in range(size)]
            found = self.in_time(net(*gates), None, [], [None] * size)
            self.assertEqual(sorted(found), list(range(size)))

    def test_a_long_way_to_a_ring(self):
        size = 15000
        whole = net(*[negated(gate + 1) for gate in range(size - 1)], negated(size - 1))
        self.assertEqual(self.in_time(whole, None, [], [None] * size), [size - 1])

    def test_wide_gates(self):
        size = 7000
        rests = [memory(rest) for rest in range(size)]
        whole = net(every(*range(2, size + 2)), some(*range(2, size + 2)), *rests)
        self.in_time(whole, list(range(size)), [], [T] * (size + 2))
        self.in_time(whole, list(range(1, size)), [], [F, T, F] + [T] * (size - 1))
        self.in_time(whole, [], [], [F] * (size + 2))
        named_often = net(given(0), *[negated(0) for _ in range(size)])
        self.in_time(named_often, None, [0], [T] + [F] * size)

    def test_nets_by_chance(self):
        chance = random.Random(51)
        seen = {"waits": 0, "known": 0}
        for _ in range(3000):
            whole = some_net(chance)
            for state in (None, [], [0, 2]):
                coming = [sign for sign in range(3) if chance.random() < 0.5]
                self.consistent(whole, state, coming)
                seen["waits" if None in values(whole, state, coming) else "known"] += 1
        self.assertGreater(min(seen.values()), 1000, seen)


def some_net(chance):
    size = chance.randint(1, 14)
    gates = []
    for _ in range(size):
        word = chance.choice(("start", "memory", "given", "not", "all", "some", "all", "some"))
        if word == "start":
            numbers = ()
        elif word in ("memory", "given"):
            numbers = (chance.randrange(4),)
        elif word == "not":
            numbers = (chance.randrange(size),)
        else:
            numbers = tuple(chance.randrange(size) for _ in range(chance.choice((0, 1, 2, 2, 3, 4))))
        gates.append((word, numbers))
    return (gates, [chance.randrange(size)], (0, size - 1), [chance.randrange(size)])


if __name__ == "__main__":
    unittest.main()
