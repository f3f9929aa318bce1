"""Points [11] and [12]: what a part and a program do in an instant, and which signs fit."""

import itertools
import unittest

import second
from pieces import E0, E1, E2, N, R0, R1, R2, R3, S0, S1, S2, S3, then
from samples import Sampler, reachable
from signalwise.instants import fits, instant, ran
from signalwise.plain import plain
from signalwise.reading import read
from signalwise.rests import rests_of


class Running(unittest.TestCase):
    def runs(self, part, *cases):
        """Each case: state, there, and what is told."""
        for state, there, told in cases:
            self.assertEqual(ran(part, state, there), told, (part, state, there))
            self.assertEqual(second.ran_rising(part, state, there), told, (part, state, there))


class Leaves(Running):
    def test_nothing(self):
        self.runs(N, (None, [], (0, [], [])), ([], [0], (0, [], [])), ([4], [], (0, [], [])))

    def test_send(self):
        self.runs(S3, (None, [], (0, [3], [])), (None, [3], (0, [3], [])), ([4], [0, 1], (0, [3], [])))

    def test_exit_by_each_number(self):
        for number in range(8):
            for state in (None, [], [number]):
                self.runs(("exit", number), (state, [number], (2 + number, [], [])))

    def test_rest_begun_and_gone_on_with(self):
        self.runs(("rest", 5), (None, [], (1, [], [5])), ([], [], (1, [], [5])), ([4, 6], [5], (1, [], [5])),
                  ([5], [], (0, [], [])), ([4, 5, 6], [5], (0, [], [])))
        self.runs(R0, (None, [], (1, [], [0])), ([0], [], (0, [], [])), ([1], [], (1, [], [0])))


class Then(Running):
    def test_the_first_ends(self):
        self.runs(then(S1, S0), (None, [], (0, [0, 1], [])))
        self.runs(then(S1, S1), (None, [], (0, [1], [])))
        self.runs(then(S1, R0), (None, [], (1, [1], [0])))
        self.runs(then(S1, E1), (None, [], (3, [1], [])))

    def test_the_first_rests(self):
        self.runs(then(then(S1, R3), S0), (None, [], (1, [1], [3])), ([3], [], (0, [0], [])))

    def test_the_first_leaves(self):
        self.runs(then(then(S1, E2), S0), (None, [], (4, [1], [])))
        self.runs(then(then(S1, E0), R0), (None, [], (2, [1], [])))
        self.runs(then(then(R0, S1, E0), R1), ([0], [], (2, [1], [])))

    def test_the_first_gone_on_with_and_the_second_begun(self):
        part = then(then(S0, R0, S1), then(S2, R1, S3))
        self.runs(part, (None, [], (1, [0], [0])), ([0], [], (1, [1, 2], [1])), ([1], [], (0, [3], [])))

    def test_where_the_second_rests_the_first_is_not_run(self):
        self.runs(then(S0, then(R1, S1)), (None, [], (1, [0], [1])), ([1], [], (0, [1], [])))
        self.runs(then(E0, then(R1, S1)), ([1], [], (0, [1], [])))
        self.runs(then(("again", 0, S0), then(R1, E1)), ([1], [], (3, [], [])))

    def test_a_rest_behind_a_rest_is_begun(self):
        self.runs(then(R0, R1), (None, [], (1, [], [0])), ([0], [], (1, [], [1])), ([1], [], (0, [], [])))


class Ifs(Running):
    def test_begun(self):
        self.runs(("if", 2, S0, S1), (None, [2], (0, [0], [])), (None, [0, 1, 3], (0, [1], [])), ([], [2], (0, [0], [])))
        self.runs(("if", 0, R0, E1), (None, [0], (1, [], [0])), (None, [], (3, [], [])), ([7], [], (3, [], [])))

    def test_gone_on_with_the_sign_counts_no_more(self):
        part = ("if", 0, then(R0, S1), then(R1, S2))
        for there in ([], [0]):
            self.runs(part, ([0], there, (0, [1], [])), ([1], there, (0, [2], [])))
        self.runs(("if", 0, N, then(R1, S2)), ([1], [0], (0, [2], [])), ([1], [], (0, [2], [])))
        self.runs(("if", 0, then(R1, S2), S3), ([1], [0], (0, [2], [])), ([1], [], (0, [2], [])))


class Beside(Running):
    def test_codes_of_every_two(self):
        ways = ((then(S0, N), 0), (then(S0, R0), 1), (then(S0, E0), 2), (then(S0, E1), 3), (then(S0, E2), 4))
        others = ((then(S1, N), 0), (then(S1, R1), 1), (then(S1, E0), 2), (then(S1, E1), 3), (then(S1, E2), 4))
        for (one, code), (other, other_code) in itertools.product(ways, others):
            greater = max(code, other_code)
            rests = [0] * (code == 1) + [1] * (other_code == 1) if greater == 1 else []
            self.runs(("beside", one, other), (None, [], (greater, [0, 1], rests)))

    def test_gone_on_with_both(self):
        part = ("beside", then(R0, S0, R1), then(R2, S1))
        self.runs(part, (None, [], (1, [], [0, 2])), ([0, 2], [], (1, [0, 1], [1])))
        self.runs(("beside", then(R0, S0), then(R2, S1, R3)), ([0, 2], [], (1, [0, 1], [3])))
        self.runs(("beside", then(R0, S0, R1), then(R2, S1, R3)), ([0, 2], [], (1, [0, 1], [1, 3])))
        self.runs(("beside", then(R0, S0, R1), then(R2, S1, E0)), ([0, 2], [], (2, [0, 1], [])))

    def test_gone_on_with_one(self):
        part = ("beside", then(S0, R0, S1), then(S2, R1, S3))
        self.runs(part, ([0], [], (0, [1], [])), ([1], [], (0, [3], [])), ([0, 1], [], (0, [1, 3], [])))
        part = ("beside", then(R0, E1), S2)
        self.runs(part, (None, [], (1, [2], [0])), ([0], [], (3, [], [])))
        self.runs(("beside", E1, then(R0, R1)), ([0], [], (1, [], [1])))

    def test_rests_rise_whatever_side_they_are_of(self):
        self.runs(("beside", R3, ("beside", R1, ("beside", R2, R0))), (None, [], (1, [], [0, 1, 2, 3])))
        self.runs(("beside", S3, ("beside", S1, ("beside", S1, S0))), (None, [], (0, [0, 1, 3], [])))


class Again(Running):
    def test_begun(self):
        self.runs(("again", 4, S0), (None, [], (1, [0], [4])), ([3], [], (1, [0], [4])))
        self.runs(("again", 4, then(S0, R1)), (None, [], (1, [0], [1])))
        self.runs(("again", 4, then(S0, E0)), (None, [], (2, [0], [])))

    def test_its_own_rest_in_the_state(self):
        self.runs(("again", 4, S0), ([4], [], (1, [0], [4])))
        self.runs(("again", 4, then(S0, R1)), ([4], [], (1, [0], [1])))
        self.runs(("again", 4, E1), ([4], [], (3, [], [])))
        self.runs(("again", 0, ("again", 1, S0)), ([0], [], (1, [0], [1])))

    def test_a_rest_of_its_part_in_the_state(self):
        part = ("again", 4, then(S0, R1, S1))
        self.runs(part, ([1], [], (1, [1], [4])), ([4], [], (1, [0], [1])))
        self.runs(("again", 4, then(R1, E0)), ([1], [], (2, [], [])))
        self.runs(("again", 4, then(R1, R2)), ([1], [], (1, [], [2])), ([2], [], (1, [], [4])))

    def test_within_one_another(self):
        part = ("again", 0, ("trap", ("again", 1, then(R2, ("if", 0, E0, S1)))))
        self.runs(part, (None, [], (1, [], [2])), ([2], [], (1, [1], [1])), ([2], [0], (1, [], [0])),
                  ([1], [0], (1, [], [2])), ([0], [0], (1, [], [2])))


class Holds(Running):
    def test_begun_whether_the_sign_is_there_or_not(self):
        for word in ("hold", "watch"):
            for there in ([], [0]):
                self.runs((word, 0, S1), (None, there, (0, [1], [])), ([9], there, (0, [1], [])))
                self.runs((word, 0, then(S1, R0, S2)), (None, there, (1, [1], [0])))
                self.runs((word, 0, E1), (None, there, (3, [], [])))

    def test_hold_gone_on_with(self):
        self.runs(("hold", 0, then(R0, S1)), ([0], [0], (1, [], [0])), ([0], [], (0, [1], [])))
        self.runs(("hold", 0, ("beside", then(R2, S1, R0), then(R1, E1))), ([1, 2], [0], (1, [], [1, 2])),
                  ([2], [0], (1, [], [2])), ([1, 2], [1], (3, [1], [])), ([2], [], (1, [1], [0])))
        self.runs(("hold", 0, ("again", 3, S1)), ([3], [0], (1, [], [3])), ([3], [1], (1, [1], [3])))

    def test_hold_keeps_no_rests_but_its_own(self):
        part = ("beside", ("hold", 0, then(R1, S1)), R2)
        self.runs(part, ([1, 2], [0], (1, [], [1])), ([1, 2], [], (0, [1], [])))

    def test_watch_gone_on_with(self):
        self.runs(("watch", 0, then(R0, S1)), ([0], [0], (0, [], [])), ([0], [1], (0, [1], [])))
        self.runs(("watch", 0, ("again", 3, S1)), ([3], [0], (0, [], [])), ([3], [], (1, [1], [3])))
        self.runs(("watch", 0, then(R1, E1)), ([1], [0], (0, [], [])), ([1], [], (3, [], [])))

    def test_within_one_another(self):
        part = ("hold", 0, ("watch", 1, ("hold", 2, ("beside", then(R0, S3, R1), ("again", 2, N)))))
        self.runs(part, ([0, 2], [0, 1, 2], (1, [], [0, 2])), ([0, 2], [0, 1], (1, [], [0, 2])),
                  ([0, 2], [1, 2], (0, [], [])), ([0, 2], [2], (1, [], [0, 2])), ([0, 2], [], (1, [3], [1, 2])))
        self.runs(then(("watch", 0, ("hold", 1, R0)), S3), ([0], [0, 1], (0, [3], [])), ([0], [1], (1, [], [0])),
                  ([0], [0], (0, [3], [])), ([0], [], (0, [3], [])))


class Traps(Running):
    def test_codes(self):
        self.runs(("trap", S0), (None, [], (0, [0], [])))
        self.runs(("trap", then(S0, R0)), (None, [], (1, [0], [0])), ([0], [], (0, [], [])))
        for number in range(8):
            self.runs(("trap", then(S0, ("exit", number))), (None, [], (number + 1 if number else 0, [0], [])))

    def test_codes_gone_on_with(self):
        for number, code in ((0, 0), (1, 2), (2, 3), (5, 6)):
            self.runs(("trap", then(R0, ("exit", number))), ([0], [], (code, [], [])))

    def test_what_stands_behind(self):
        self.runs(then(("trap", then(E0, S0)), S1), (None, [], (0, [1], [])))
        self.runs(then(("trap", ("trap", then(E1, S0))), S1), (None, [], (0, [1], [])))
        self.runs(("trap", then(("trap", then(E1, S0)), S1)), (None, [], (0, [], [])))

    def test_the_rests_beside_an_exit_are_left_no_more(self):
        part = ("trap", ("beside", ("again", 0, S0), then(R1, ("if", 2, E0, N))))
        self.runs(part, (None, [], (1, [0], [0, 1])), ([0, 1], [2], (0, [0], [])), ([0, 1], [], (1, [0], [0])))

    def test_the_farther_of_two_exits_counts(self):
        part = ("trap", then(("trap", ("beside", E0, then(S0, E1))), S1))
        self.runs(part, (None, [], (0, [0], [])))
        part = ("trap", then(("trap", ("beside", E0, E0)), S1))
        self.runs(part, (None, [], (0, [1], [])))


class WithinOneAnother(Running):
    def test_each_kind_within_each_kind(self):
        """Each place of each kind of part, with a part in it that can end, rest and leave, in all its states."""
        inner = ("if", 0, then(S1, R0, S2), ("if", 1, then(R1, E0), ("beside", R2, ("again", 3, S3))))
        places = (
            lambda p: then(p, ("rest", 8), ("send", 8)), lambda p: then(("send", 8), p), lambda p: then(("rest", 8), p),
            lambda p: ("if", 2, p, ("rest", 8)), lambda p: ("if", 2, ("rest", 8), p),
            lambda p: ("beside", p, then(("rest", 8), ("send", 8))), lambda p: ("beside", ("again", 8, ("send", 8)), p),
            lambda p: ("again", 8, p), lambda p: ("hold", 2, p), lambda p: ("watch", 2, p), lambda p: ("trap", p),
        )
        lists = [list(some) for size in range(4) for some in itertools.combinations(range(3), size)]
        tried = 0
        for outer, between in itertools.product(places, places):
            part = numbered(outer(between(inner)))
            states = [None]
            for state in states:
                for there in lists:
                    told = ran(part, state, there)
                    self.assertEqual(told, second.ran_rising(part, state, there), (part, state, there))
                    if told[2] and told[2] not in states:
                        states.append(told[2])
            tried += len(states)
        self.assertGreater(tried, 5 * len(places) ** 2)

    def test_many_programs(self):
        sampler = Sampler(21)
        for count in range(200):
            part = plain(sampler.named(count % 50 + 1))[3]
            program = (0, 0, 12, part)
            for state in reachable(program, sampler.chance, second.instant, 8):
                for _ in range(4):
                    there = sampler.some(range(12))
                    if state != []:
                        told = ran(part, state, there)
                        self.assertEqual(told, second.ran_rising(part, state, there), (part, state, there))
                    self.assertEqual(instant(program, state, there), second.instant(program, state, there))

    def test_parts_of_programs_in_the_state_of_the_whole(self):
        sampler = Sampler(22)
        for count in range(150):
            program = plain(sampler.named(count % 40 + 1))
            for state in reachable((0, 0, 12, program[3]), sampler.chance, second.instant, 5):
                for part in inner_parts(program[3]):
                    there = sampler.some(range(12))
                    self.assertEqual(ran(part, state, there), second.ran_rising(part, state, there))


class Rising(Running):
    def test_great_numbers(self):
        """In another order than that of their last digits."""
        part = then(("send", 64), ("send", 8), ("send", 1), ("beside", ("rest", 64), ("beside", ("rest", 8), R1)))
        self.runs(part, (None, [], (1, [1, 8, 64], [1, 8, 64])))
        self.runs(("hold", 9, part), ([1, 8, 64], [9], (1, [], [1, 8, 64])))


class Bounds(Running):
    def test_deep_parts(self):
        for depth in (100, 150, 200):
            for word in ("hold", "watch"):
                part = then(R0, S1)
                for _ in range(depth):
                    part = (word, 0, part)
                code = 1 if word == "hold" else 0
                self.assertEqual(ran(part, None, [0]), (1, [], [0]))
                self.assertEqual(ran(part, [0], [0]), (code, [], [0] * code))
                self.assertEqual(ran(part, [0], []), (0, [1], []))
            left = right = ("send", 0)
            for sign in range(1, depth):
                left = ("then", left, ("send", sign))
                right = ("beside", ("send", sign), right)
            self.assertEqual(ran(left, None, []), (0, list(range(depth)), []))
            self.assertEqual(ran(right, None, []), (0, list(range(depth)), []))
            part = ("exit", depth - 1)
            for _ in range(depth):
                part = ("trap", then(part, S0))
            self.assertEqual(ran(part, None, []), (0, [], []))

    def test_many_rests(self):
        part = ("rest", 0)
        for number in range(1, 75):
            part = ("beside", ("rest", number), part)
        part = ("hold", 0, part)
        every = list(range(75))
        self.assertEqual(ran(part, None, []), (1, [], every))
        self.assertEqual(ran(part, every, [0]), (1, [], every))
        self.assertEqual(ran(part, every, []), (0, [], []))


class Instants(unittest.TestCase):
    def test_ahead_of_the_first_instant(self):
        program = plain(read("in go;out done;await go;send done"))
        self.assertEqual(instant(program, None, []), (1, [], [0]))
        self.assertEqual(instant(program, None, [0]), (1, [], [0]))

    def test_from_state_to_state(self):
        program = plain(read("in go;out done;await go;send done"))
        self.assertEqual(instant(program, [0], []), (1, [], [0]))
        self.assertEqual(instant(program, [0], [0]), (0, [1], []))

    def test_ended_whatever_is_there(self):
        for text in ("in a;out b;send b", "in a;out b;again{send b}", "in a;out b;nothing", "in a;out b;rest;send b"):
            for there in ([], [0], [1], [0, 1]):
                self.assertEqual(instant(plain(read(text)), [], there), (0, [], []), text)

    def test_signs_sent_once_and_rising(self):
        program = plain(read("in a;out b c;send c;send b;send c|send a;rest|rest"))
        self.assertEqual(instant(program, None, []), (1, [0, 1, 2], [0, 1]))

    def test_a_program_without_rests_and_signs(self):
        self.assertEqual(instant((0, 0, 0, N), None, []), (0, [], []))
        self.assertEqual(instant((0, 0, 0, N), [], []), (0, [], []))

    def test_weak_and_keep(self):
        program = plain(read("in a;out b c;weak a{keep b};send c"))
        self.assertEqual(instant(program, None, [0, 1]), (1, [1], [0, 1]))
        self.assertEqual(instant(program, [0, 1], [1]), (1, [1], [0, 1]))
        self.assertEqual(instant(program, [0, 1], [0, 1, 2]), (0, [1, 2], []))


class Fits(unittest.TestCase):
    program = plain(read("in a b;out c d;if a{send c}|if c{send d}|send b"))

    def fitting(self, program, state, coming, *told):
        """Just these lists fit, each in every order and with its signs twice."""
        found = []
        for size in range(program[2] + 1):
            for there in itertools.combinations(range(program[2]), size):
                for row in itertools.permutations(there):
                    for come in itertools.permutations(coming):
                        answer = fits(program, state, list(come), list(row))
                        self.assertIs(answer, second.fits(program, state, come, there))
                        self.assertIs(answer, fits(program, state, list(come) * 2, list(row) * 2))
                if answer:
                    found.append(list(there))
        self.assertEqual(found, list(told))

    def test_what_comes_and_what_is_sent(self):
        self.fitting(self.program, None, [], [1])
        self.fitting(self.program, None, [0], [0, 1, 2, 3])

    def test_a_coming_sign_that_is_sent_too(self):
        self.fitting(self.program, None, [1], [1])
        self.fitting(self.program, None, [0, 1], [0, 1, 2, 3])

    def test_a_coming_sign_that_is_no_in(self):
        self.fitting(self.program, None, [2], [1, 2, 3])

    def test_there_but_neither_come_nor_sent(self):
        self.assertIs(fits(self.program, None, [], [0, 1, 2, 3]), False)
        self.assertIs(fits(self.program, None, [], [1, 2, 3]), False)
        self.assertIs(fits(self.program, None, [], [1, 3]), False)

    def test_come_or_sent_but_not_there(self):
        self.assertIs(fits(self.program, None, [0], [1]), False)
        self.assertIs(fits(self.program, None, [0], [0, 1, 2]), False)
        self.assertIs(fits(self.program, None, [], []), False)

    def test_great_numbers(self):
        program = (70, 0, 70, then(("send", 64), ("send", 8), ("if", 33, S1, N)))
        for there in ([64, 8, 1, 33], [33, 1, 8, 64], [1, 64, 33, 8]):
            self.assertIs(fits(program, None, [33, 8], there), True)
            self.assertIs(fits(program, None, [8], there), False)
        self.assertIs(fits(program, None, [16, 8], [16, 64, 8]), True)

    def test_none_one_or_more_fit(self):
        self.fitting(plain(read("in;out c;if c{nothing}else{send c}")), None, [])
        self.fitting(plain(read("in;out c;if c{send c}")), None, [], [], [0])
        self.fitting(plain(read("in;out c d;if c{nothing}else{send d}|if d{nothing}else{send c}")), None, [], [0], [1])
        self.fitting(plain(read("in;out c;if c{send c}else{send c}")), None, [], [0])

    def test_later_states_and_the_end(self):
        program = plain(read("in a;out c;rest;if a{send c}"))
        self.fitting(program, None, [], [])
        self.fitting(program, None, [0], [0])
        self.fitting(program, [0], [0], [0, 1])
        self.fitting(program, [], [0], [0])
        self.fitting(program, [], [], [])

    def test_many(self):
        sampler = Sampler(23)
        for count in range(300):
            program = plain(sampler.named(count % 30 + 1))
            for state in reachable(program, sampler.chance, second.instant, 4):
                for _ in range(4):
                    coming = sampler.some(range(program[2]))
                    there = sampler.some(range(program[2]))
                    if sampler.chance.random() < 0.5:
                        there = sorted(set(coming) | set(second.instant(program, state, there)[1]))
                    told = second.fits(program, state, coming, there)
                    sampler.chance.shuffle(coming)
                    sampler.chance.shuffle(there)
                    self.assertIs(fits(program, state, coming, there), told)


def inner_parts(part):
    found = [part]
    for piece in part:
        if isinstance(piece, tuple):
            found += inner_parts(piece)
    return found


def numbered(part):
    """The part with the rests numbered one by one, so that no two have the same number."""
    taken = itertools.count()

    def again(part):
        if part[0] == "rest":
            return ("rest", next(taken))
        if part[0] == "again":
            return ("again", next(taken), again(part[2]))
        return tuple(again(piece) if isinstance(piece, tuple) else piece for piece in part)

    whole = again(part)
    assert len(set(rests_of(whole))) == len(rests_of(whole))
    return whole


if __name__ == "__main__":
    unittest.main()
