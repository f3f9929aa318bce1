"""Point [3] over all stages, from texts on, and the bounds of point [2]."""

import time
import unittest

import second
from great import great_programs, joined
from samples import Sampler, filled, open_marks, reachable, row_of
from signalwise.desk import Desk
from signalwise.errors import TooMany, Unsettled
from signalwise.gates import ring, steps, values
from signalwise.instants import fits, instant
from signalwise.looking import comings, looked
from signalwise.nets import net_of
from signalwise.plain import plain
from signalwise.reading import read
from signalwise.rests import rests_of, resting
from signalwise.runners import Netted, Walker
from signalwise.settling import rounds, settled
from signalwise.walking import walked

LITTLE_TIME = 10


def texts(seed, count):
    """Texts of every kind of part, with needless blanks and braces, and the named programs that they tell."""
    sampler = Sampler(seed)
    for number in range(count):
        named = sampler.named(number % 45 + 1)
        text = sampler.wordy(named)
        if open_marks(text) <= 16 and len(text) <= 3000:
            yield text, named


class Whole(unittest.TestCase):
    def setUp(self):
        self.seen = {"settled": 0, "waits": 0, "let": 0, "refused": 0}

    def test_texts_run_by_both_alike(self):
        sampler = Sampler(31)
        for text, named in texts(32, 350):
            self.assertEqual(read(text), named)
            program = plain(read(text))
            net = net_of(program)
            walker, netted = Walker(program), Netted(net)
            for _ in range(6):
                coming = sampler.some(range(program[0]))
                state = walker.state()
                self.assertEqual(netted.state(), state)
                try:
                    there = walker.tick(coming)
                except Unsettled:
                    self.assertRaises(Unsettled, netted.tick, coming)
                    self.waits(program, net, state, coming)
                    continue
                self.assertEqual(netted.tick(coming), there)
                self.one_way(program, net, state, coming, there)
                self.assertEqual(instant(program, state, there)[2], walker.state())
        self.assertGreater(min(self.seen["settled"], self.seen["waits"]), 150, self.seen)

    def one_way(self, program, net, state, coming, there):
        """The signs that are there fit and no others do; the net tells the same end."""
        self.seen["settled"] += 1
        self.assertTrue(fits(program, state, coming, there))
        self.assertIsNone(ring(net, state, coming))
        if program[2] <= 5:
            self.assertEqual([some for some in comings(program[2]) if fits(program, state, coming, some)], [there])
        told = values(net, state, coming)
        code = instant(program, state, there)[0]
        ends = [told[gate] for gate in net[2]]
        self.assertEqual(ends, [state != [] and code == 0, code == 1])

    def waits(self, program, net, state, coming):
        """There is a ring of gates that wait on one another, the gate of a sign among them."""
        self.seen["waits"] += 1
        found = ring(net, state, coming)
        told = values(net, state, coming)
        self.assertEqual(len(found), len(set(found)))
        for place, gate in enumerate(found):
            self.assertIsNone(told[gate])
            self.assertIn(gate, net[0][found[place - 1]][1])
        self.assertTrue(set(found) & set(net[1]))
        self.assertFalse(any(told[gate] is not None for gate in found))

    def test_the_order_of_settling_the_gates_changes_nothing(self):
        chance = Sampler(33).chance
        for text, _ in texts(34, 120):
            program = plain(read(text))
            net = net_of(program)
            for state in reachable(program, chance, second.instant, 3):
                coming = [sign for sign in range(program[0]) if chance.random() < 0.5]
                told = values(net, state, coming)
                self.assertEqual(in_some_order(net, state, coming, chance), told)
                self.assertEqual(sorted(steps(net, state, coming)),
                                 [(gate, value) for gate, value in enumerate(told) if value is not None])

    def test_programs_looked_through(self):
        for text, _ in texts(35, 300):
            program = plain(read(text))
            try:
                told = looked(program)
            except TooMany:
                continue
            self.seen[told[0]] += 1
            net = net_of(program)
            if told[0] == "let":
                self.runs_on(program, net, told[1])
            else:
                self.comes_to_wait(program, net, told[1], told[2])
        self.assertGreater(min(self.seen["let"], self.seen["refused"]), 50, self.seen)

    def runs_on(self, program, net, states):
        self.assertIsNone(states[0])
        for state in states:
            for coming in comings(program[0]):
                told = values(net, state, coming)
                self.assertNotIn(None, told)
                self.assertIn([rest for rest, gate in enumerate(net[3]) if told[gate]], states)

    def comes_to_wait(self, program, net, way, waiting):
        netted = Netted(net)
        for coming in way[:-1]:
            netted.tick(coming)
        told = values(net, netted.state(), way[-1])
        self.assertEqual([sign for sign, gate in enumerate(net[1]) if told[gate] is None], waiting)
        self.assertRaises(Unsettled, netted.tick, way[-1])


def in_some_order(net, state, coming, chance):
    """The gates settled one by one as [17] tells, in any order."""
    known = [None] * len(net[0])
    order = list(range(len(net[0])))
    changed = True
    while changed:
        changed = False
        chance.shuffle(order)
        for gate in order:
            value = second.value_of(net[0][gate], known, state, coming) if known[gate] is None else None
            if value is not None:
                known[gate] = value
                changed = True
    return known


class Bounds(unittest.TestCase):
    """Programs of 150 parts, 60 rests, 30 signs, 6 traps and 100 deep, and somewhat greater ones, are done, in time."""

    def test_every_function(self):
        chance = Sampler(36).chance
        for program in great_programs():
            began = time.monotonic()
            net = net_of(program)
            self.assertLess(len(net[0]), 15000)
            self.assertEqual(len(rests_of(program[3])), len(net[3]))
            state = None
            for _ in range(4):
                coming = [sign for sign in range(program[0]) if chance.random() < 0.5]
                known = settled(program, state, coming)
                told = values(net, state, coming)
                self.assertEqual([told[gate] for gate in net[1]], known)
                self.assertEqual(sum(map(len, rounds(program, state, coming))) + len(coming) + known.count(None),
                                 program[2])
                self.assertEqual(resting(program[3], state), bool(state))
                walked(program[3], state, True, known)
                self.assertEqual(len(steps(net, state, coming)), len(told) - told.count(None))
                self.assertEqual(ring(net, state, coming) is None, None not in told)
                state = instant(program, state, [sign for sign, value in enumerate(known) if value])[2]
            self.assertLess(time.monotonic() - began, LITTLE_TIME)

    def test_great_programs_are_looked_through(self):
        seen = {"let": 0, "refused": 0, "too many": 0}
        for program in great_programs():
            began = time.monotonic()
            try:
                seen[looked(program)[0]] += 1
            except TooMany:
                seen["too many"] += 1
            self.assertLess(time.monotonic() - began, LITTLE_TIME)
        self.assertGreater(min(seen.values()), 0, seen)

    def test_many_states_comings_and_rounds(self):
        """Five ins, thirty signs, each settled in a round of its own, in each of 21 states."""
        rows = [("if", sign - 1, ("send", sign), ("nothing",)) for sign in range(6, 30)]
        rests = joined("then", [("rest", rest) for rest in range(19)])
        chain = ("again", 19, joined("beside", [("send", 5)] + rows))
        began = time.monotonic()
        states = [None] + [[rest, 19] for rest in range(19)] + [[19]]
        self.assertEqual(looked((5, 25, 30, ("beside", chain, rests))), ("let", states))
        self.assertLess(time.monotonic() - began, LITTLE_TIME)

    def test_the_greatest_text_at_the_desk(self):
        desk = Desk()
        began = time.monotonic()
        for block in (row_of(30), "|".join(["keep qqqqqbbb"] * 30), "again{" + "|".join(["await qqqqqbbb"] * 29) + "}"):
            text = filled(3000, block)
            self.assertEqual(desk.say("load " + text), "loaded")
            for number in range(400):
                row = "tick" + " qqqqqbbb" * (number % 3 == 2)
                self.assertEqual(desk.say(row), "there")
            self.assertEqual(desk.say("begin"), "ok")
        self.assertLess(time.monotonic() - began, 3 * LITTLE_TIME)


if __name__ == "__main__":
    unittest.main()
