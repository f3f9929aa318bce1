"""Points [21] and [22]: the comings of a program, and programs looked through."""

import unittest

import second
from great import joined
from samples import Sampler
from signalwise.errors import TooMany, Unsettled, WiseError
from signalwise.instants import instant
from signalwise.looking import comings, looked
from signalwise.plain import plain
from signalwise.reading import read
from signalwise.runners import Walker
from signalwise.settling import settled

N = ("nothing",)
WAITS = ("if", 1, ("send", 1), N)


def looked_of(text):
    return looked(plain(read(text)))


def row(rests, *behind):
    return joined("then", [("rest", rest) for rest in range(rests)] + list(behind))


class Comings(unittest.TestCase):
    def test_few(self):
        self.assertEqual(comings(0), [[]])
        self.assertEqual(comings(1), [[], [0]])
        self.assertEqual(comings(2), [[], [0], [1], [0, 1]])
        self.assertEqual(comings(3), [[], [0], [1], [0, 1], [2], [0, 2], [1, 2], [0, 1, 2]])

    def test_none_to_five_ins_and_more(self):
        for came in range(8):
            told = comings(came)
            self.assertEqual([sum(2 ** sign for sign in coming) for coming in told], list(range(2 ** came)))
            for coming in told:
                self.assertIs(type(coming), list)
                self.assertEqual(coming, sorted(set(coming)))

    def test_each_list_is_a_new_one(self):
        first = comings(3)
        first[1].append(9)
        first[0].append(8)
        self.assertEqual(first[3], [0, 1])
        first.clear()
        self.assertEqual(comings(3)[:2], [[], [0]])


class Let(unittest.TestCase):
    def test_few_states(self):
        self.assertEqual(looked_of("in;out;nothing"), ("let", [None, []]))
        self.assertEqual(looked_of("in a b;out c;send c"), ("let", [None, []]))
        self.assertEqual(looked_of("in;out;halt"), ("let", [None, [0]]))
        self.assertEqual(looked_of("in;out;rest;rest"), ("let", [None, [0], [1], []]))
        self.assertEqual(looked_of("in a;out b;await a;send b"), ("let", [None, [0], []]))

    def test_the_order_is_that_of_finding(self):
        self.assertEqual(looked_of("in a;out;if a{rest;halt}else{rest;rest}"), ("let", [None, [2], [0], [3], [1], []]))
        self.assertEqual(looked_of("in a b;out;if b{halt};if a{halt};halt"), ("let", [None, [2], [1], [0]]))
        self.assertEqual(looked_of("in a;out;{await a;halt}|{await a;rest}"), ("let", [None, [0, 2], [1, 3], [1]]))

    def test_states_that_no_coming_leads_to_are_not_told(self):
        self.assertEqual(looked_of("in;out b;if b{halt};rest"), ("let", [None, [1], []]))

    def test_forty_states(self):
        wanted = [None] + [[rest] for rest in range(38)] + [[]]
        self.assertEqual(looked((0, 0, 0, row(38))), ("let", wanted))
        self.assertEqual(looked((2, 1, 3, row(38))), ("let", wanted))
        self.assertEqual(looked((0, 0, 0, row(38, ("again", 38, N)))), ("let", wanted[:-1] + [[38]]))

    def test_forty_states_of_a_text(self):
        rests = ";".join(["rest"] * 12)
        told = looked_of("in;out;again{rest;rest}|again{" + rests + "}")
        self.assertEqual((told[0], len(told[1])), ("let", 40))


class Refused(unittest.TestCase):
    def test_in_the_first_instant(self):
        self.assertEqual(looked_of("in;out b;if b{send b}"), ("refused", [[]], [0]))
        self.assertEqual(looked_of("in a;out b;if b{send b}"), ("refused", [[]], [1]))
        self.assertEqual(looked_of("in a;out b;if a{if b{send b}}"), ("refused", [[0]], [1]))
        self.assertEqual(looked_of("in a b;out c;if b{if c{send c}}"), ("refused", [[1]], [2]))
        self.assertEqual(looked_of("in a b;out c;if a{if b{if c{send c}}}"), ("refused", [[0, 1]], [2]))

    def test_an_in_may_wait(self):
        self.assertEqual(looked_of("in a;out b;if a{send a}"), ("refused", [[]], [0]))
        self.assertEqual(looked_of("in a b;out c;if b{send c};if c{send b}"), ("refused", [[]], [1, 2]))

    def test_the_signs_that_wait_rising(self):
        self.assertEqual(looked_of("in;out b c d e;if e{send b}|if b{send e}|send c|if d{nothing}"),
                         ("refused", [[]], [0, 3]))
        self.assertEqual(looked_of("in a;out b;local s{local q{if q{send s};if s{send b;send q}}}"),
                         ("refused", [[]], [1, 2, 3]))

    def test_in_later_instants(self):
        self.assertEqual(looked_of("in;out b;rest;rest;if b{send b}"), ("refused", [[], [], []], [0]))
        self.assertEqual(looked_of("in a;out b;await a;if b{send b}"), ("refused", [[], [0]], [1]))
        self.assertEqual(looked_of("in a b;out c;await b;await a;rest;if c{send c}"),
                         ("refused", [[], [1], [0], []], [2]))
        self.assertEqual(looked_of("in a b;out c;await b;if a{rest;if c{send c}}else{if c{send c}}"),
                         ("refused", [[], [1]], [2]))

    def test_the_state_s_first_way_is_told(self):
        self.assertEqual(looked_of("in a;out b;if a{nothing};rest;if a{if b{send b}}"), ("refused", [[], [0]], [1]))
        self.assertEqual(looked_of("in a b;out c;if b{rest}else{if a{halt}};rest;if c{send c}"),
                         ("refused", [[], []], [2]))

    def test_states_in_the_order_in_which_they_are_found(self):
        self.assertEqual(looked_of("in a;out b;if a{rest;if b{send b}}else{rest;rest;if b{send b}}"),
                         ("refused", [[0], []], [1]))
        self.assertEqual(looked_of("in a;out b;if a{rest;rest;if b{send b}}else{rest;if a{if b{send b}}}"),
                         ("refused", [[], [0]], [1]))

    def test_five_ins(self):
        asks = "if b{send b}"
        for name in ("a", "c", "d", "e", "f"):
            asks = "if " + name + "{" + asks + "}"
        self.assertEqual(looked_of("in a c d e f;out b;" + asks), ("refused", [[0, 1, 2, 3, 4]], [5]))
        told = looked_of("in a c d e f;out b;await a;await c;await d;await e;await f;if b{send b}")
        self.assertEqual(told, ("refused", [[], [0], [1], [2], [3], [4]], [5]))

    def test_the_longest_ways(self):
        self.assertEqual(looked((0, 2, 2, row(39, WAITS))), ("refused", [[]] * 40, [1]))
        self.assertEqual(looked((1, 1, 2, row(38, ("if", 0, WAITS, N)))), ("refused", [[]] * 38 + [[0]], [1]))


class Many(unittest.TestCase):
    def test_the_41st_state(self):
        for program in ((0, 0, 0, row(39)), (1, 1, 2, row(45)), (0, 0, 0, row(39, ("again", 39, N)))):
            for name in (TooMany, WiseError, ValueError):
                with self.assertRaises(name) as taken:
                    looked(program)
                self.assertIs(type(taken.exception), TooMany)

    def test_the_41st_state_of_a_text(self):
        text = "in;out;again{rest;rest;rest;rest}|again{rest;rest;rest;rest;rest;rest;rest}"
        self.assertRaises(TooMany, looked_of, text)

    def test_an_instant_not_settled_comes_ahead(self):
        self.assertEqual(looked((1, 1, 2, row(39, ("if", 0, N, WAITS))))[0], "refused")
        self.assertRaises(TooMany, looked, (1, 1, 2, row(39, ("if", 0, WAITS, N))))

    def test_as_soon_as_it_is_found(self):
        """Behind the 41st state there would be an instant not settled, in the same state or in a later one."""
        self.assertRaises(TooMany, looked, (0, 2, 2, row(40, WAITS)))
        for sign in (3, 4):
            self.assertRaises(TooMany, looked, wide(sign))
        self.assertEqual(looked(wide(2)), ("refused", [[], [2]], [5]))
        self.assertEqual(looked(wide(0)), ("refused", [[], [0]], [5]))

    def test_against_the_second_way(self):
        sampler = Sampler(211)
        seen = {}
        for count in range(900):
            if count % 2:
                program = plain(sampler.named(count % 40 + 1))
            else:
                program = sampler.program(count % 40 + 1, count % 3, 2, 2 + count % 3)
            self.same(program, seen)
        self.assertGreater(min(seen["let"], seen["refused"]), 200, seen)

    def test_programs_of_many_states(self):
        sampler = Sampler(212)
        seen = {}
        for count in range(60):
            rows = [("again", 20 * number + 19, row_from(20 * number, sampler.chance.randint(1, 12)))
                    for number in range(2)]
            rows.append(("if", 0, ("send", 1), N))
            if count % 4 == 0:
                rows.append(("watch", 0, ("then", row_from(60, count % 7 + 1), ("if", 1, ("send", 1), N))))
            self.same((count % 2, 2 - count % 2, 2, joined("beside", rows)), seen)
        for kind in ("let", "refused", "too many"):
            self.assertGreater(seen.get(kind, 0), 4, seen)

    def same(self, program, seen):
        wanted = second.looked(program)
        seen[wanted[0]] = seen.get(wanted[0], 0) + 1
        if wanted == ("too many",):
            self.assertRaises(TooMany, looked, program)
            return
        told = looked(program)
        self.assertIs(type(told), tuple)
        self.assertEqual(told, wanted, program)
        (self.is_let if told[0] == "let" else self.is_refused)(program, *told[1:])

    def is_let(self, program, states):
        """All that comes leads from each state to one among them, and each but the first is led to."""
        led = [None]
        for state in states:
            for coming in comings(program[0]):
                known = settled(program, state, coming)
                self.assertNotIn(None, known)
                led.append(instant(program, state, [sign for sign, value in enumerate(known) if value])[2])
        for state in led:
            self.assertIn(state, states)
        for state in states:
            self.assertIn(state, led)

    def is_refused(self, program, way, waiting):
        walker = Walker(program)
        for coming in way[:-1]:
            walker.tick(coming)
        known = settled(program, walker.state(), way[-1])
        self.assertEqual([sign for sign, value in enumerate(known) if value is None], waiting)
        self.assertRaises(Unsettled, walker.tick, way[-1])


def wide(asked):
    """From None on to 32 states, from each of them to 32 more; there it waits where the sign asked for comes."""
    rows = []
    for sign in range(5):
        first = ("if", sign, ("rest", sign), ("rest", 5 + sign))
        rows.append(("then", first, ("if", sign, ("rest", 10 + sign), ("rest", 15 + sign))))
    rows.append(("then", ("rest", 20), ("if", asked, ("if", 5, ("send", 5), N), N)))
    return (5, 1, 6, joined("beside", rows))


def row_from(first, rests):
    return joined("then", [("rest", first + rest) for rest in range(rests)])


class Runs(unittest.TestCase):
    def test_each_run_of_a_program_let_is_settled(self):
        sampler = Sampler(221)
        let = 0
        for count in range(400):
            program = plain(sampler.named(count % 30 + 1))
            try:
                told = looked(program)
            except TooMany:
                continue
            if told[0] == "let" and len(told[1]) > 3:
                let += 1
                walker = Walker(program)
                for _ in range(30):
                    walker.tick(sampler.some(range(program[0])))
                    self.assertIn(walker.state(), told[1])
        self.assertGreater(let, 20)


if __name__ == "__main__":
    unittest.main()
