"""Point [13]: what a part can and must do, by what is known of the signs."""

import itertools
import unittest

import second
from pieces import E0, E1, E2, N, R0, R1, R2, S0, S1, S2, S3, either, then
from samples import Sampler, reachable
from signalwise.instants import ran
from signalwise.plain import plain
from signalwise.walking import walked

NOT_KNOWN = [None] * 4


class Walking(unittest.TestCase):
    def walks(self, part, state, known, surely):
        """What is told of a part run surely, and of one run perhaps: the same codes and the same that can be sent."""
        told = walked(part, state, True, known)
        self.assertEqual(told, surely, (part, state, known))
        self.assertIs(told[1], surely[1])
        told = walked(part, state, False, known)
        self.assertEqual(told, (surely[0], False, [], surely[3]), (part, state, known))
        self.assertIs(told[1], False)
        for sure in (True, False):
            self.assertEqual(second.walked_rising(part, state, sure, known), walked(part, state, sure, known))


class Leaves(Walking):
    def test_each_leaf(self):
        for state in (None, [], [9]):
            self.walks(N, state, NOT_KNOWN, ([0], True, [], []))
            self.walks(S2, state, NOT_KNOWN, ([0], True, [2], [2]))
            self.walks(R0, state, NOT_KNOWN, ([1], True, [], []))
            for number in range(7):
                self.walks(("exit", number), state, NOT_KNOWN, ([2 + number], True, [], []))

    def test_a_rest_gone_on_with(self):
        self.walks(R0, [0], NOT_KNOWN, ([0], True, [], []))
        self.walks(R1, [0, 1, 2], NOT_KNOWN, ([0], True, [], []))

    def test_what_is_known_changes_no_leaf(self):
        for value in (True, False, None):
            self.walks(S0, None, [value], ([0], True, [0], [0]))


class Ifs(Walking):
    def test_begun_by_each_value(self):
        part = ("if", 1, then(S0, E0), then(S3, R0))
        self.walks(part, None, [None, True, None, None], ([2], True, [0], [0]))
        self.walks(part, None, [None, False, None, None], ([1], True, [3], [3]))
        self.walks(part, None, NOT_KNOWN, ([1, 2], False, [], [0, 3]))

    def test_not_known_it_does_not_surely_end_even_by_one_code(self):
        self.walks(("if", 1, N, N), None, NOT_KNOWN, ([0], False, [], []))
        self.walks(("if", 1, S0, S0), None, NOT_KNOWN, ([0], False, [], [0]))
        self.walks(("if", 1, R0, R1), None, NOT_KNOWN, ([1], False, [], []))

    def test_gone_on_with_the_sign_counts_no_more(self):
        part = ("if", 0, then(R0, S1), then(R1, S2, E0))
        for value in (True, False, None):
            self.walks(part, [0], [value, None, None], ([0], True, [1], [1]))
            self.walks(part, [1], [value, None, None], ([2], True, [2], [2]))

    def test_within_one_another(self):
        part = ("if", 0, ("if", 1, S2, E0), R0)
        self.walks(part, None, [True, True, None], ([0], True, [2], [2]))
        self.walks(part, None, [True, None, None], ([0, 2], False, [], [2]))
        self.walks(part, None, [None, True, None], ([0, 1], False, [], [2]))
        self.walks(part, None, [None, False, None], ([1, 2], False, [], []))
        self.walks(part, None, [None, None, None], ([0, 1, 2], False, [], [2]))


class Then(Walking):
    def test_the_first_surely_ends_with_0(self):
        self.walks(then(S1, S0), None, NOT_KNOWN, ([0], True, [0, 1], [0, 1]))
        self.walks(then(S1, S1), None, NOT_KNOWN, ([0], True, [1], [1]))
        self.walks(then(S1, E1), None, NOT_KNOWN, ([3], True, [1], [1]))
        self.walks(then(S1, ("if", 0, S2, E0)), None, NOT_KNOWN, ([0, 2], False, [1], [1, 2]))

    def test_the_first_surely_ends_with_another_code(self):
        self.walks(then(then(S1, R0), S0), None, NOT_KNOWN, ([1], True, [1], [1]))
        self.walks(then(then(S1, E0), S0), None, NOT_KNOWN, ([2], True, [1], [1]))

    def test_the_first_can_end_with_0_and_with_another(self):
        self.walks(then(("if", 0, S1, R0), S2), None, NOT_KNOWN, ([0, 1], False, [], [1, 2]))
        self.walks(then(("if", 0, S1, R0), then(S2, E0)), None, NOT_KNOWN, ([1, 2], False, [], [1, 2]))
        self.walks(then(("if", 0, S1, R0), then(S2, R1)), None, NOT_KNOWN, ([1], False, [], [1, 2]))

    def test_the_first_can_end_with_0_alone_but_not_surely(self):
        self.walks(then(("if", 0, N, N), S2), None, NOT_KNOWN, ([0], False, [], [2]))
        self.walks(then(S1, ("if", 0, N, N), S2), None, NOT_KNOWN, ([0], False, [1], [1, 2]))

    def test_the_first_cannot_end_with_0(self):
        self.walks(then(("if", 0, R0, then(S1, E0)), S2), None, NOT_KNOWN, ([1, 2], False, [], [1]))

    def test_a_known_sign_makes_it_sure(self):
        part = then(("if", 0, S1, R0), S2)
        self.walks(part, None, [True, None, None], ([0], True, [1, 2], [1, 2]))
        self.walks(part, None, [False, None, None], ([1], True, [], []))

    def test_where_the_second_rests_the_first_is_not_walked(self):
        self.walks(then(S0, then(R0, S1)), [0], NOT_KNOWN, ([0], True, [1], [1]))
        self.walks(then(E0, then(R0, ("if", 0, S1, E1))), [0], NOT_KNOWN, ([0, 3], False, [], [1]))

    def test_gone_on_with_the_first(self):
        part = then(then(S0, R0, ("if", 0, N, E0)), then(S1, R1))
        self.walks(part, [0], NOT_KNOWN, ([1, 2], False, [], [1]))
        self.walks(part, [0], [True, None], ([1], True, [1], [1]))
        self.walks(part, [0], [False, None], ([2], True, [], []))


class Beside(Walking):
    def test_codes_of_every_two_sets(self):
        """Each set of codes from 0 to 4 beside each other one."""
        leaves = (N, R0, E0, E1, E2)
        others = (N, R1, E0, E1, E2)
        picks = [pick for size in range(1, 6) for pick in itertools.combinations(range(5), size)]
        for pick, other in itertools.product(picks, picks):
            part = ("beside", either(0, *[leaves[code] for code in pick]), either(0, *[others[code] for code in other]))
            codes = sorted({max(one, two) for one in pick for two in other})
            self.walks(part, None, [None], (codes, len(pick) == 1 and len(other) == 1, [], []))

    def test_signs_of_both(self):
        self.walks(("beside", S3, S1), None, NOT_KNOWN, ([0], True, [1, 3], [1, 3]))
        self.walks(("beside", S1, S1), None, NOT_KNOWN, ([0], True, [1], [1]))
        self.walks(("beside", S3, ("if", 0, S1, S2)), None, NOT_KNOWN, ([0], False, [3], [1, 2, 3]))
        self.walks(("beside", ("if", 0, S1, S2), S3), None, NOT_KNOWN, ([0], False, [3], [1, 2, 3]))

    def test_one_that_does_not_surely_end(self):
        self.walks(then(("beside", S3, ("if", 0, N, N)), S1), None, NOT_KNOWN, ([0], False, [3], [1, 3]))
        self.walks(("beside", E2, ("if", 0, N, E1)), None, NOT_KNOWN, ([4], False, [], []))

    def test_gone_on_with_both(self):
        part = ("beside", then(S0, R0, S1), then(S2, R1, ("if", 0, S3, E0)))
        self.walks(part, [0, 1], NOT_KNOWN, ([0, 2], False, [1], [1, 3]))
        self.walks(part, [0, 1], [True, None, None, None], ([0], True, [1, 3], [1, 3]))

    def test_gone_on_with_one(self):
        part = ("beside", then(S0, R0, S1), then(S2, R1, ("if", 0, S3, R2)))
        self.walks(part, [0], NOT_KNOWN, ([0], True, [1], [1]))
        self.walks(part, [1], NOT_KNOWN, ([0, 1], False, [], [3]))
        self.walks(part, [1], [False, None, None, None], ([1], True, [], []))
        self.walks(then(("beside", R0, E0), S3), [0], NOT_KNOWN, ([0], True, [3], [3]))
        self.walks(then(("beside", E0, R0), S3), [0], NOT_KNOWN, ([0], True, [3], [3]))


class Again(Walking):
    def test_begun(self):
        self.walks(("again", 0, S1), None, NOT_KNOWN, ([1], True, [1], [1]))
        self.walks(("again", 0, E1), None, NOT_KNOWN, ([3], True, [], []))
        self.walks(("again", 0, either(0, N, R1)), None, NOT_KNOWN, ([1], False, [], []))
        self.walks(("again", 0, either(0, N, E0)), None, NOT_KNOWN, ([1, 2], False, [], []))

    def test_its_own_rest_in_the_state(self):
        part = ("again", 0, then(S1, R1, ("if", 0, S2, E0)))
        self.walks(part, [0], NOT_KNOWN, ([1], True, [1], [1]))

    def test_a_rest_of_its_part_in_the_state(self):
        part = ("again", 0, then(S1, R1, ("if", 0, S2, E0)))
        self.walks(part, [1], NOT_KNOWN, ([1, 2], False, [], [2]))
        self.walks(part, [1], [True, None, None], ([1], True, [2], [2]))
        self.walks(part, [1], [False, None, None], ([2], True, [], []))

    def test_nothing_behind_it_can_be_begun(self):
        self.walks(then(("again", 0, N), S0), None, NOT_KNOWN, ([1], True, [], []))
        self.walks(then(("again", 0, either(0, N, E0)), S0), None, NOT_KNOWN, ([1, 2], False, [], []))


class Holds(Walking):
    def test_begun_by_each_value(self):
        for word in ("hold", "watch"):
            for value in (True, False, None):
                self.walks((word, 0, S1), None, [value, None], ([0], True, [1], [1]))
                self.walks((word, 0, then(S1, R0, S2)), None, [value, None, None], ([1], True, [1], [1]))
                self.walks((word, 0, ("if", 1, N, E0)), None, [value, None], ([0, 2], False, [], []))

    def test_hold_gone_on_with(self):
        part = ("hold", 0, then(R0, S1, E1))
        self.walks(part, [0], [True, None], ([1], True, [], []))
        self.walks(part, [0], [False, None], ([3], True, [1], [1]))
        self.walks(part, [0], [None, None], ([1, 3], False, [], [1]))
        self.walks(("hold", 0, then(R0, S1)), [0], [None, None], ([0, 1], False, [], [1]))

    def test_watch_gone_on_with(self):
        part = ("watch", 0, then(R0, S1, E1))
        self.walks(part, [0], [True, None], ([0], True, [], []))
        self.walks(part, [0], [False, None], ([3], True, [1], [1]))
        self.walks(part, [0], [None, None], ([0, 3], False, [], [1]))
        self.walks(("watch", 0, then(R0, S1, R1)), [0], [None, None], ([0, 1], False, [], [1]))

    def test_not_known_it_does_not_surely_end_even_by_one_code(self):
        self.walks(("hold", 0, ("again", 0, S1)), [0], [None, None], ([1], False, [], [1]))
        self.walks(("watch", 0, then(R0, S1)), [0], [None, None], ([0], False, [], [1]))

    def test_what_stands_behind(self):
        part = then(("watch", 0, then(R0, E0)), S1)
        self.walks(part, [0], [True, None], ([0], True, [1], [1]))
        self.walks(part, [0], [False, None], ([2], True, [], []))
        self.walks(part, [0], [None, None], ([0, 2], False, [], [1]))
        part = then(("hold", 0, R0), S1)
        self.walks(part, [0], [True, None], ([1], True, [], []))
        self.walks(part, [0], [False, None], ([0], True, [1], [1]))
        self.walks(part, [0], [None, None], ([0, 1], False, [], [1]))

    def test_within_one_another(self):
        part = ("hold", 0, ("watch", 1, then(R0, S2, E0)))
        self.walks(part, [0], [None, None, None], ([0, 1, 2], False, [], [2]))
        self.walks(part, [0], [None, True, None], ([0, 1], False, [], []))
        self.walks(part, [0], [True, None, None], ([1], True, [], []))
        self.walks(part, [0], [False, None, None], ([0, 2], False, [], [2]))
        self.walks(part, [0], [None, False, None], ([1, 2], False, [], [2]))
        self.walks(part, [0], [False, False, None], ([2], True, [2], [2]))


class Traps(Walking):
    def test_codes(self):
        for leaf, code in ((N, 0), (R0, 1), (E0, 0), (E1, 2), (E2, 3), (("exit", 6), 7)):
            self.walks(("trap", leaf), None, NOT_KNOWN, ([code], True, [], []))

    def test_several_codes(self):
        self.walks(("trap", either(0, N, E0)), None, [None], ([0], False, [], []))
        self.walks(("trap", either(0, R0, E0)), None, [None], ([0, 1], False, [], []))
        self.walks(("trap", either(0, E1, E2)), None, [None], ([2, 3], False, [], []))
        self.walks(("trap", either(0, N, R0, E0, E1, E2)), None, [None], ([0, 1, 2, 3], False, [], []))
        self.walks(("trap", ("trap", either(0, R0, E0, E1, E2))), None, [None], ([0, 1, 2], False, [], []))

    def test_what_stands_behind(self):
        self.walks(then(("trap", then(S0, E0)), S1), None, NOT_KNOWN, ([0], True, [0, 1], [0, 1]))
        self.walks(then(("trap", then(S0, either(0, E0, N))), S1), None, NOT_KNOWN, ([0], False, [0], [0, 1]))
        self.walks(then(("trap", either(0, E0, R0)), S1), None, NOT_KNOWN, ([0, 1], False, [], [1]))
        self.walks(then(("trap", either(0, E1, R0)), S1), None, NOT_KNOWN, ([1, 2], False, [], []))

    def test_six_traps_and_more(self):
        for traps in (6, 7, 9):
            part = either(0, N, R0, *[("exit", number) for number in range(traps)])
            for round_it in range(traps):
                last = max(1, 1 + traps - round_it)
                self.walks(part, None, [None], (list(range(last + 1)), False, [], []))
                part = ("trap", part)
            self.walks(part, None, [None], ([0, 1], False, [], []))


class Rising(Walking):
    """Great numbers, in another order than that of their last digits."""

    def test_signs(self):
        part = then(("send", 64), ("send", 8), ("send", 1), ("send", 33), ("send", 8))
        rising = [1, 8, 33, 64]
        self.walks(part, None, [None], ([0], True, rising, rising))
        self.walks(("if", 0, part, ("send", 16)), None, [None], ([0], False, [], [1, 8, 16, 33, 64]))

    def test_codes(self):
        parts = [("exit", number) for number in (62, 6, 31, 14)] + [R0, N]
        codes = [0, 1, 8, 16, 33, 64]
        part = either(0, *parts)
        self.walks(part, None, [None], (codes, False, [], []))
        self.walks(then(part, ("exit", 30)), None, [None], ([1, 8, 16, 32, 33, 64], False, [], []))
        self.walks(("again", 1, part), None, [None], (codes[1:], False, [], []))
        self.walks(("trap", part), None, [None], ([0, 1, 7, 15, 32, 63], False, [], []))
        self.walks(("beside", part, either(0, ("exit", 38), E0)), None, [None], ([2, 8, 16, 33, 40, 64], False, [], []))


class Many(Walking):
    def test_just_as_the_words_tell(self):
        sampler = Sampler(31)
        for count in range(250):
            part = plain(sampler.named(count % 50 + 1))[3]
            for state in reachable((0, 0, 12, part), sampler.chance, second.instant, 6):
                for _ in range(4):
                    known = [sampler.chance.choice((True, False, None, None)) for _ in range(12)]
                    for sure in (True, False):
                        told = walked(part, state, sure, known)
                        self.assertEqual(told, second.walked_rising(part, state, sure, known), (part, state, known))
                        if told[1]:
                            self.assertEqual(len(told[0]), 1)

    def test_with_all_known_it_is_what_ran_does(self):
        sampler = Sampler(32)
        for count in range(200):
            part = plain(sampler.named(count % 50 + 1))[3]
            for state in reachable((0, 0, 12, part), sampler.chance, second.instant, 6):
                for _ in range(4):
                    there = sampler.some(range(12))
                    known = [sign in there for sign in range(12)]
                    code, sent, _ = ran(part, state, there)
                    self.assertEqual(walked(part, state, True, known), ([code], True, sent, sent))
                    self.assertEqual(walked(part, state, False, known), ([code], False, [], sent))

    def test_what_is_told_holds_however_the_others_come_to_be_known(self):
        sampler = Sampler(33)
        for count in range(200):
            program = plain(sampler.named(count % 30 + 1))
            if program[2] > 6:
                continue
            for state in reachable(program, sampler.chance, second.instant, 4):
                known = [sampler.chance.choice((True, False, None, None)) for _ in range(program[2])]
                codes, surely, must, can = walked(program[3], state, True, known)
                for full in itertools.product(*[(True, False) if value is None else (value,) for value in known]):
                    code, sent, _ = ran(program[3], state, [sign for sign in range(program[2]) if full[sign]])
                    self.assertIn(code, codes)
                    self.assertLessEqual(set(must), set(sent))
                    self.assertLessEqual(set(sent), set(can))

    def test_deep_parts(self):
        for depth in (100, 150, 200):
            for word, code in (("hold", 1), ("watch", 0)):
                part = then(R0, S1, E0)
                for _ in range(depth):
                    part = (word, 0, part)
                self.assertEqual(walked(part, [0], True, [None, None]), ([code, 2], False, [], [1]))
                self.assertEqual(walked(part, [0], True, [False, None]), ([2], True, [1], [1]))
            part = N
            for sign in range(depth):
                part = ("if", 0, then(part, ("send", sign)), N)
            self.assertEqual(walked(part, None, True, [None]), ([0], False, [], list(range(depth))))
            self.assertEqual(walked(part, None, True, [True]), ([0], True, list(range(depth)), list(range(depth))))


if __name__ == "__main__":
    unittest.main()
