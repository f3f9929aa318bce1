"""Point [18]: the net of a program, its form by [16], what it settles and tells, its rings and its size."""

import unittest

import second
from great import great_programs
from samples import Sampler, reachable
from signalwise.gates import ring, values
from signalwise.instants import instant
from signalwise.looking import comings
from signalwise.nets import net_of
from signalwise.plain import plain
from signalwise.reading import read
from signalwise.rests import rests_of
from signalwise.settling import settled
from signalwise.tree import every_part, inner_parts

HOW_MANY = {"start": 0, "memory": 1, "given": 1, "not": 1}
WORDS = ("nothing", "rest", "send", "if", "again", "hold", "watch", "trap", "exit", "then", "beside")


class Checking(unittest.TestCase):
    def formed(self, program, net):
        """The form that [16] tells, rings through the signs alone, and few gates."""
        self.assertIsInstance(net, tuple)
        gates, signs, ends, nexts = net
        self.assertIsInstance(gates, list)
        rests = rests_of(program[3])
        for gate in gates:
            self.assertIsInstance(gate, tuple)
            word, numbers = gate
            self.assertIsInstance(numbers, tuple)
            self.assertTrue(all(type(number) is int for number in numbers), gate)
            self.assertEqual(len(numbers), HOW_MANY.get(word, len(numbers)), gate)
            among = {"memory": rests, "given": range(program[2])}.get(word, range(len(gates)))
            self.assertTrue(all(number in among for number in numbers), gate)
            self.assertIn(word, ("start", "memory", "given", "not", "all", "some"))
        self.assertEqual((type(signs), type(ends), type(nexts)), (list, tuple, list))
        self.assertEqual((len(signs), len(ends), len(nexts)), (program[2], 2, len(rests)))
        for number in [*signs, *ends, *nexts]:
            self.assertIs(type(number), int)
            self.assertIn(number, range(len(gates)))
        self.assertLessEqual(len(gates), 100 * (len(every_part(program[3])) + program[2]) + 100)
        self.assertFalse(ring_without(net), program)

    def does(self, program, net, state, coming):
        """Just what settled and instant tell, in one instant; told is whether all is settled."""
        told = values(net, state, coming)
        known = settled(program, state, coming)
        where = (program, state, coming)
        self.assertEqual([told[gate] for gate in net[1]], known, where)
        if None in known:
            self.assertIsNotNone(ring(net, state, coming))
            return False
        self.assertNotIn(None, told, where)
        there = [sign for sign, value in enumerate(known) if value]
        code, _, behind = instant(program, state, there)
        runs = state != []
        self.assertEqual([told[gate] for gate in net[2]], [runs and code == 0, runs and code == 1], where)
        self.assertEqual([rest for rest, gate in enumerate(net[3]) if told[gate]], behind, where)
        return True


def ring_without(net):
    """Whether there is a ring of gates without the gate of a sign: those that hang on none are taken off by and by."""
    gates, signs = net[0], set(net[1])
    asked = {number: [other for other in gate[1] if other not in signs] if gate[0] in ("not", "all", "some") else []
             for number, gate in enumerate(gates) if number not in signs}
    askers = {number: [] for number in asked}
    for number, others in asked.items():
        for other in others:
            askers[other].append(number)
    count = {number: len(others) for number, others in asked.items()}
    free = [number for number in asked if count[number] == 0]
    for number in free:
        for asker in askers[number]:
            count[asker] -= 1
            if count[asker] == 0:
                free.append(asker)
    return len(free) < len(asked)


class EachPart(Checking):
    """Each kind of part by itself, in every state it comes to and with all signs that come."""

    def tells(self, text, *rows):
        """Rows of a state, what comes, what the signs are (T, F and - in one word), the ends, and the next state."""
        program = plain(read(text))
        net = net_of(program)
        self.formed(program, net)
        for state, coming, signs, ends, behind in rows:
            told = values(net, state, coming)
            self.assertEqual("".join({True: "T", False: "F", None: "-"}[told[gate]] for gate in net[1]), signs)
            if "-" not in signs:
                self.assertEqual("".join("FT"[told[gate]] for gate in net[2]), ends, (text, state, coming))
                self.assertEqual([rest for rest, gate in enumerate(net[3]) if told[gate]], behind, (text, state))
            self.does(program, net, state, coming)

    def test_nothing_and_send(self):
        self.tells("in;out;nothing", (None, [], "", "TF", []), ([], [], "", "FF", []))
        self.tells("in a;out b c;send c", (None, [], "FFT", "TF", []), (None, [0], "TFT", "TF", []),
                   ([], [0], "TFF", "FF", []))

    def test_rest(self):
        self.tells("in;out b;rest;send b", (None, [], "F", "FT", [0]), ([0], [], "T", "TF", []),
                   ([], [], "F", "FF", []))

    def test_halt_and_keep(self):
        self.tells("in;out;halt", (None, [], "", "FT", [0]), ([0], [], "", "FT", [0]))
        self.tells("in;out b;keep b", (None, [], "T", "FT", [0]), ([0], [], "T", "FT", [0]), ([], [], "F", "FF", []))

    def test_await(self):
        self.tells("in a;out b;await a;send b", (None, [0], "TF", "FT", [0]), ([0], [], "FF", "FT", [0]),
                   ([0], [0], "TT", "TF", []))

    def test_then(self):
        self.tells("in;out a b c;send a;rest;send b;rest;send c", (None, [], "TFF", "FT", [0]),
                   ([0], [], "FTF", "FT", [1]), ([1], [], "FFT", "TF", []))
        self.tells("in;out a;trap t{exit t;send a}", (None, [], "F", "TF", []))

    def test_if(self):
        text = "in a;out b c;if a{send b;rest;send c}else{rest;send b};send c"
        self.tells(text, (None, [0], "TTF", "FT", [0]), (None, [], "FFF", "FT", [1]), ([0], [], "FFT", "TF", []),
                   ([1], [0], "TTT", "TF", []), ([0], [0], "TFT", "TF", []), ([1], [], "FTT", "TF", []))

    def test_beside(self):
        text = "in a;out b c;{rest;send b;rest|await a;send c};send b"
        self.tells(text, (None, [], "FFF", "FT", [0, 2]), ([0, 2], [], "FTF", "FT", [1, 2]),
                   ([0, 2], [0], "TTT", "FT", [1]), ([1, 2], [], "FFF", "FT", [2]), ([1, 2], [0], "TTT", "TF", []),
                   ([2], [0], "TTT", "TF", []), ([1], [], "FTF", "TF", []))

    def test_exits_beside_rests(self):
        text = "in a b;out c;trap t{trap u{rest|if a{exit t}|if b{exit u}};send c};rest"
        self.tells(text, (None, [], "FFF", "FT", [0]), (None, [0], "TFF", "FT", [1]), (None, [1], "FTT", "FT", [1]),
                   (None, [0, 1], "TTF", "FT", [1]), ([0], [], "FFT", "FT", [1]), ([1], [], "FFF", "TF", []))

    def test_again(self):
        text = "in a;out b;again{send b;if a{rest}}"
        self.tells(text, (None, [], "FT", "FT", [1]), (None, [0], "TT", "FT", [0]), ([0], [0], "TF", "FT", [1]),
                   ([1], [0], "TT", "FT", [0]), ([1], [], "FT", "FT", [1]))

    def test_hold(self):
        text = "in a;out b;hold a{rest;send b;rest|again{rest}};send b"
        self.tells(text, (None, [0], "TF", "FT", [0, 2]), ([0, 2], [0], "TF", "FT", [0, 2]),
                   ([0, 2], [], "FT", "FT", [1, 3]), ([1, 3], [0], "TF", "FT", [1, 3]),
                   ([1, 3], [], "FF", "FT", [2]), ([2], [0], "TF", "FT", [2]), ([3], [], "FF", "FT", [2]))

    def test_a_hold_that_is_left_by_an_exit_beside_it(self):
        text = "in a b;out c;trap t{hold a{rest;rest}|await b;exit t};rest"
        self.tells(text, ([0, 2], [0], "TFF", "FT", [0, 2]), ([0, 2], [0, 1], "TTF", "FT", [3]),
                   ([0, 2], [1], "FTF", "FT", [3]), ([0, 2], [], "FFF", "FT", [1, 2]), ([2], [1], "FTF", "FT", [3]))

    def test_holds_within_one_another(self):
        text = "in a b;out c;hold a{{rest;send c;rest}|hold b{rest;send c;rest}}"
        self.tells(text, (None, [0, 1], "TTF", "FT", [0, 2]), ([0, 2], [0], "TFF", "FT", [0, 2]),
                   ([0, 2], [0, 1], "TTF", "FT", [0, 2]), ([0, 2], [1], "FTT", "FT", [1, 2]),
                   ([0, 2], [], "FFT", "FT", [1, 3]), ([1, 2], [1], "FTF", "FT", [2]))

    def test_watch(self):
        text = "in a;out b;watch a{rest;send b;rest};send b"
        self.tells(text, (None, [0], "TF", "FT", [0]), ([0], [0], "TT", "TF", []), ([0], [], "FT", "FT", [1]),
                   ([1], [0], "TT", "TF", []), ([1], [], "FT", "TF", []))

    def test_weak(self):
        text = "in a;out b;weak a{again{send b}};rest"
        self.tells(text, (None, [0], "TT", "FT", [0, 1]), ([0, 1], [0], "TT", "FT", [2]),
                   ([0, 1], [], "FT", "FT", [0, 1]), ([2], [], "FF", "TF", []))

    def test_traps_within_one_another(self):
        text = "in a b;out c d;trap t{trap u{trap v{if a{exit t}else{if b{exit u}else{exit v}}};send c};send d}"
        self.tells(text, (None, [0], "TFFF", "TF", []), (None, [1], "FTFT", "TF", []), (None, [], "FFTT", "TF", []))


class NotSettled(Checking):
    def waits(self, text, state, coming, known):
        program = plain(read(text))
        net = net_of(program)
        self.formed(program, net)
        told = values(net, state, coming)
        self.assertEqual([told[gate] for gate in net[1]], known, text)
        self.assertFalse(self.does(program, net, state, coming))

    def test_signs_that_hang_on_themselves(self):
        self.waits("in;out b;if b{send b}", None, [], [None])
        self.waits("in;out b;if b{nothing}else{send b}", None, [], [None])
        self.waits("in;out b;if b{send b}else{send b}", None, [], [None])

    def test_a_sign_that_is_not_told_by_what_both_ways_do(self):
        self.waits("in;out b c;if b{send c}else{send c};send b", None, [], [None, None])
        self.waits("in;out b c;{if b{nothing}|send c};send b", None, [], [None, True])

    def test_behind_holds_and_watches(self):
        self.waits("in;out b c;watch b{rest;send c};send b", [0], [], [None, None])
        self.waits("in;out b;hold b{rest;send b}", [0], [], [None])
        self.waits("in;out b c;{hold b{rest}|rest;send c};send b", [0, 1], [], [None, True])
        self.waits("in;out b c;{hold b{rest}|rest;send c};send b", [0], [], [None, False])

    def test_behind_exits(self):
        self.waits("in;out b c;trap t{if b{exit t}|rest};send b;send c", None, [], [None, None])
        self.waits("in;out b c;trap t{if b{nothing}|send c;exit t};send b", None, [], [None, True])
        self.waits("in;out b c;trap t{trap u{if b{exit u}|exit t};send c};send b", None, [], [None, False])

    def test_only_where_the_part_runs(self):
        text = "in a;out b;await a;if b{send b}"
        program = plain(read(text))
        net = net_of(program)
        self.assertEqual([self.does(program, net, state, coming) for state in (None, [0], []) for coming in ([], [0])],
                         [True, True, True, False, True, True])


class Many(Checking):
    def tried(self, program, chance, most):
        """Some of the program's states, all that comes where it is little, and signs that are no ins at times."""
        net = net_of(program)
        self.formed(program, net)
        few = comings(program[0]) if program[0] < 3 else []
        for state in reachable(program, chance, second.instant, most) + [[]]:
            some = [[sign for sign in range(program[0]) if chance.random() < 0.5] for _ in range(2)]
            any_signs = [sign for sign in range(program[2]) if chance.random() < 0.2]
            for coming in few + some + [any_signs]:
                self.seen[self.does(program, net, state, coming)] += 1

    def setUp(self):
        self.seen = {True: 0, False: 0}

    def test_named_programs(self):
        sampler = Sampler(181)
        for count in range(300):
            self.tried(plain(sampler.named(count % 50 + 1)), sampler.chance, 6)
        self.assertGreater(min(self.seen.values()), 300, self.seen)

    def test_plain_programs(self):
        sampler = Sampler(182)
        pairs = {}
        for count in range(400):
            program = sampler.program(count % 40 + 1, count % 4, 2, 2 + count % 4 + count % 3)
            self.tried(program, sampler.chance, 6)
            for part in every_part(program[3]):
                for inner in inner_parts(part):
                    pairs[part[0], inner[0]] = pairs.get((part[0], inner[0]), 0) + 1
        self.assertGreater(min(self.seen.values()), 300, self.seen)
        rounds = [word for word in WORDS if word not in ("nothing", "rest", "send", "exit")]
        for around in rounds:
            for within in WORDS:
                self.assertGreater(pairs.get((around, within), 0), 10, (around, within))

    def test_small_programs_in_every_state(self):
        """All states to which they can come, whatever is said to be there, and all signs that come."""
        sampler = Sampler(183)
        for count in range(250):
            program = sampler.program(count % 12 + 3, 2, 1, 3)
            net = net_of(program)
            for state in every_state(program):
                for coming in comings(3):
                    self.seen[self.does(program, net, state, coming)] += 1
        self.assertGreater(min(self.seen.values()), 150, self.seen)

    def test_greatest_programs(self):
        chance = Sampler(184).chance
        for program in great_programs():
            self.tried(program, chance, 5)
        self.assertGreater(min(self.seen.values()), 20, self.seen)

    def test_the_gates_know_just_what_the_second_way_tells(self):
        sampler = Sampler(185)
        for count in range(120):
            program = sampler.program(count % 30 + 1, 2, 2, 4)
            net = net_of(program)
            for state in reachable(program, sampler.chance, second.instant, 3):
                coming = sampler.some(range(2))
                told = second.values(net, state, coming)
                self.assertEqual([told[gate] for gate in net[1]], second.rounds(program, state, coming)[1])


def every_state(program):
    states = [None]
    for state in states:
        for there in comings(program[2]):
            behind = second.instant(program, state, there)[2]
            if behind not in states:
                states.append(behind)
    return states


class TheCheckItself(unittest.TestCase):
    def test_rings_are_seen(self):
        given, own = ("given", (0,)), ("some", (0, 1))
        self.assertTrue(ring_without(([given, own], [0], (0, 0), [])))
        self.assertFalse(ring_without(([given, own], [1], (0, 0), [])))
        self.assertTrue(ring_without(([("not", (1,)), ("all", (0, 2)), ("some", (1, 2))], [2], (0, 0), [])))
        self.assertFalse(ring_without(([("not", (1,)), ("all", (2,)), ("some", (0, 2))], [2], (0, 0), [])))


if __name__ == "__main__":
    unittest.main()
