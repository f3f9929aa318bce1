"""Points [14] and [15]: instants settled in rounds, and that where all is settled just one list of signs fits."""

import unittest

import second
from samples import Sampler, reachable
from signalwise.instants import fits, instant
from signalwise.plain import plain
from signalwise.reading import read
from signalwise.settling import rounds, settled

T, F = True, False


class Settling(unittest.TestCase):
    def settles(self, text, state, coming, told, known):
        program = plain(read(text))
        self.assertEqual(rounds(program, state, coming), told, text)
        self.assertEqual(settled(program, state, coming), known, text)
        self.consistent(program, state, coming)

    def consistent(self, program, state, coming):
        """Both tell the same, as the second way does; and they hold among all signs that fit."""
        told = rounds(program, state, coming)
        known = settled(program, state, coming)
        self.assertEqual((told, known), second.rounds(program, state, coming))
        behind = [T if sign in coming else None for sign in range(program[2])]
        for changes in told:
            self.assertTrue(changes)
            self.assertEqual(changes, sorted(changes))
            for sign, value in changes:
                self.assertIs(behind[sign], None)
                self.assertIsInstance(value, bool)
                behind[sign] = value
        self.assertEqual(behind, known)
        self.fitting(program, state, coming, known)

    def fitting(self, program, state, coming, known):
        found = second.fitting(program, state, coming)
        if None not in known:
            there = [sign for sign, value in enumerate(known) if value]
            self.assertEqual(found, [there])
            self.assertIs(fits(program, state, coming, there), True)
        for there in found:
            for sign, value in enumerate(known):
                self.assertIn(value, (None, sign in there))


class OneRound(Settling):
    def test_no_signs(self):
        self.settles("in;out;nothing", None, [], [], [])
        self.settles("in;out;rest", [0], [], [], [])
        self.settles("in;out;rest", [], [], [], [])

    def test_sent_and_not_sent(self):
        self.settles("in a;out b c;send b", None, [], [[(0, F), (1, T), (2, F)]], [F, T, F])
        self.settles("in a;out b c;send b", None, [0], [[(1, T), (2, F)]], [T, T, F])

    def test_all_come_and_no_round_changes_anything(self):
        self.settles("in a b;out;if a{send b}", None, [0, 1], [], [T, T])

    def test_a_sign_that_comes_and_is_sent(self):
        self.settles("in a;out b;send a|if a{send b}", None, [0], [[(1, T)]], [T, T])
        self.settles("in a;out b;send a|if a{send b}", None, [], [[(0, T)], [(1, T)]], [T, T])

    def test_a_sign_that_comes_is_known_though_it_hangs_on_itself(self):
        self.settles("in a;out;if a{nothing}else{send a}", None, [0], [], [T])
        self.settles("in a;out;if a{nothing}else{send a}", None, [], [], [None])

    def test_coming_signs_that_are_no_ins(self):
        self.settles("in a;out b;local s{if s{send b}}", None, [2], [[(0, F), (1, T)]], [F, T, T])
        self.settles("in;out b;if b{send b}", None, [0], [], [T])


class SeveralRounds(Settling):
    def test_a_row_of_signs(self):
        self.settles("in a;out b c d;if a{send b}|if b{send c}|if c{send d}", None, [0],
                     [[(1, T)], [(2, T)], [(3, T)]], [T, T, T, T])
        self.settles("in a;out b c d;if a{send b}|if b{send c}|if c{send d}", None, [],
                     [[(0, F)], [(1, F)], [(2, F)], [(3, F)]], [F, F, F, F])

    def test_signs_not_there_that_lead_on(self):
        self.settles("in a;out b c;if a{nothing}else{send b}|if b{nothing}else{send c}", None, [],
                     [[(0, F)], [(1, T)], [(2, F)]], [F, T, F])
        self.settles("in a;out b c;if a{nothing}else{send b}|if b{nothing}else{send c}", None, [0],
                     [[(1, F)], [(2, T)]], [T, F, T])

    def test_a_row_goes_no_farther_than_it_surely_ends(self):
        self.settles("in a;out b c;if a{nothing}else{rest};send b;if b{send c}", None, [0],
                     [[(1, T)], [(2, T)]], [T, T, T])
        self.settles("in a;out b c;if a{nothing}else{rest};send b;if b{send c}", None, [],
                     [[(0, F)], [(1, F), (2, F)]], [F, F, F])

    def test_an_exit_beside(self):
        self.settles("in a;out b c;trap t{if a{exit t}|if b{rest}};send c", None, [],
                     [[(0, F), (1, F)], [(2, T)]], [F, F, T])

    def test_thirty_signs_and_more(self):
        for count in (30, 40):
            body = ("send", 0)
            for sign in range(1, count):
                body = ("beside", ("if", sign - 1, ("send", sign), ("nothing",)), body)
            program = (0, count, count, body)
            self.assertEqual(rounds(program, None, []), [[(sign, T)] for sign in range(count)])
            self.assertEqual(settled(program, None, []), [T] * count)


class NotSettled(Settling):
    def test_signs_that_hang_on_themselves(self):
        self.settles("in;out b;if b{send b}", None, [], [], [None])
        self.settles("in;out b;if b{nothing}else{send b}", None, [], [], [None])
        self.settles("in;out b;if b{send b}else{send b}", None, [], [], [None])

    def test_signs_that_hang_on_one_another(self):
        self.settles("in;out b c;if b{send c}|if c{send b}", None, [], [], [None, None])
        self.settles("in;out b c;if b{nothing}else{send c}|if c{nothing}else{send b}", None, [], [], [None, None])

    def test_some_settled_and_some_not(self):
        self.settles("in a;out b c;send c|if b{send b}", None, [], [[(0, F), (2, T)]], [F, None, T])
        self.settles("in a;out b c;if a{if b{send b}};send c", None, [0], [], [T, None, None])
        self.settles("in a;out b c;if a{if b{send b}};send c", None, [], [[(0, F)], [(1, F), (2, T)]], [F, F, T])

    def test_a_sign_sent_behind_what_hangs_on_it(self):
        self.settles("in;out b;if b{nothing};send b", None, [], [], [None])
        self.settles("in;out b;if b{nothing}|send b", None, [], [[(0, T)]], [T])
        self.settles("in;out b;if b{nothing}else{nothing};send b", None, [], [], [None])

    def test_holds_and_watches_of_own_signs(self):
        self.settles("in;out b;hold b{rest;send b}", None, [], [[(0, F)]], [F])
        self.settles("in;out b;hold b{rest;send b}", [0], [], [], [None])
        self.settles("in;out b;watch b{rest;send b}", [0], [], [], [None])
        self.settles("in;out b c;watch b{rest;send c};send b", [0], [], [], [None, None])
        self.settles("in;out b c;watch b{rest;send c}|rest;send b", [0, 1], [], [[(0, T)], [(1, F)]], [T, F])


class States(Settling):
    text = "in a;out b c;await a;send b;rest;if b{nothing}else{send c}"

    def test_each_state(self):
        self.settles(self.text, None, [0], [[(1, F), (2, F)]], [T, F, F])
        self.settles(self.text, [0], [], [[(0, F), (2, F)], [(1, F)]], [F, F, F])
        self.settles(self.text, [0], [0], [[(1, T), (2, F)]], [T, T, F])
        self.settles(self.text, [1], [], [[(0, F), (1, F)], [(2, T)]], [F, F, T])

    def test_where_the_program_has_ended_nothing_can_be_sent(self):
        self.settles(self.text, [], [], [[(0, F), (1, F), (2, F)]], [F, F, F])
        self.settles(self.text, [], [0], [[(1, F), (2, F)]], [T, F, F])
        self.settles("in;out b;if b{send b}", [], [], [[(0, F)]], [F])
        self.settles("in;out b;again{send b}", [], [], [[(0, F)]], [F])

    def test_the_settled_instant_leads_on(self):
        program = plain(read(self.text))
        there = [sign for sign, value in enumerate(settled(program, [0], [0])) if value]
        self.assertEqual(instant(program, [0], there), (1, [1], [1]))


class Many(Settling):
    def test_programs_with_few_signs(self):
        sampler = Sampler(41)
        ends = {True: 0, False: 0}
        for count in range(300):
            named = sampler.named(count % 40 + 1)
            program = plain(named)
            if program[2] > 6:
                continue
            for state in reachable(program, sampler.chance, second.instant, 4):
                coming = sampler.some(range(len(named[0])))
                self.consistent(program, state, coming)
                ends[None in settled(program, state, coming)] += 1
        self.assertGreater(min(ends.values()), 40, ends)

    def test_programs_whose_signs_hang_on_one_another(self):
        sampler = Sampler(42)
        lengths = {}
        for _ in range(400):
            program = (2, 3, 5, tangled(sampler.chance))
            for state in reachable(program, sampler.chance, second.instant, 3):
                coming = sampler.some(range(2))
                self.consistent(program, state, coming)
                key = (len(rounds(program, state, coming)), None in settled(program, state, coming))
                lengths[key] = lengths.get(key, 0) + 1
        for key in ((1, False), (2, False), (3, False), (1, True), (2, True)):
            self.assertGreater(lengths.get(key, 0), 5, lengths)

    def test_the_order_of_settling_changes_nothing(self):
        """Signs told one by one, in any order, in the place of round by round, come to the same."""
        sampler = Sampler(43)
        for _ in range(200):
            program = (2, 3, 5, tangled(sampler.chance))
            for state in reachable(program, sampler.chance, second.instant, 3):
                coming = sampler.some(range(2))
                self.assertEqual(one_by_one(program, state, coming, sampler.chance), settled(program, state, coming))


def tangled(chance):
    """Rows beside one another, each asking for a sign ahead of sending one."""
    numbers = iter(range(100))
    whole = None
    for _ in range(chance.randint(2, 6)):
        row = ("send", chance.randrange(5))
        for _ in range(chance.randint(0, 2)):
            other = chance.choice((("nothing",), ("send", chance.randrange(5)), ("rest", next(numbers))))
            ways = [row, other]
            chance.shuffle(ways)
            row = ("if", chance.randrange(5), *ways)
        if chance.random() < 0.3:
            row = ("then", ("rest", next(numbers)), row)
            row = chance.choice((row, (chance.choice(("hold", "watch")), chance.randrange(5), row)))
        if chance.random() < 0.3:
            row = ("again", next(numbers), row)
        word = chance.choice(("then", "beside", "beside"))
        whole = row if whole is None else (word, whole, row)
    return whole


def one_by_one(program, state, coming, chance):
    known = [True if sign in coming else None for sign in range(program[2])]
    while True:
        must, can = set(), set()
        if state != []:
            must, can = second.walked(program[3], state, True, known)[2:]
        free = [sign for sign, value in enumerate(known) if value is None and (sign in must or sign not in can)]
        if not free:
            return known
        sign = chance.choice(free)
        known[sign] = sign in must


if __name__ == "__main__":
    unittest.main()
