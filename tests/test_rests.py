"""Point [10]: the rests of a part, and whether it rests."""

import unittest

from samples import Sampler
from signalwise.plain import plain
from signalwise.reading import read
from signalwise.rests import rests_of, resting

N = ("nothing",)


def numbered(part, numbers):
    """The part with other numbers, taken one by one, for its rests and agains."""
    if part[0] == "rest":
        return ("rest", numbers.pop())
    if part[0] == "again":
        return ("again", numbers.pop(), numbered(part[2], numbers))
    return tuple(numbered(piece, numbers) if isinstance(piece, tuple) else piece for piece in part)


class RestsOf(unittest.TestCase):
    def test_each_kind_of_part(self):
        inner = ("rest", 5)
        for part, rests in (
            (N, []), (("rest", 0), [0]), (("rest", 7), [7]), (("send", 3), []), (("exit", 2), []),
            (("if", 9, inner, ("rest", 2)), [2, 5]), (("if", 9, N, inner), [5]), (("if", 9, inner, N), [5]),
            (("again", 4, N), [4]), (("again", 8, inner), [5, 8]), (("again", 1, inner), [1, 5]),
            (("hold", 1, inner), [5]), (("watch", 1, inner), [5]), (("trap", inner), [5]),
            (("then", inner, ("rest", 6)), [5, 6]), (("then", ("rest", 6), inner), [5, 6]),
            (("beside", inner, ("rest", 0)), [0, 5]), (("beside", N, ("send", 0)), []),
        ):
            self.assertEqual(rests_of(part), rests, part)

    def test_the_rests_of_programs(self):
        sampler = Sampler(10)
        for count in range(300):
            named = sampler.named(count % 60 + 1)
            text = repr(named[2])
            words = sum(text.count(f"('{word}'") for word in ("rest", "halt", "keep", "await", "again", "weak"))
            self.assertEqual(rests_of(plain(named)[3]), list(range(words)))

    def test_any_unlike_numbers_in_any_order(self):
        sampler = Sampler(12)
        for count in range(300):
            part = plain(sampler.named(count % 60 + 1))[3]
            numbers = sampler.chance.sample(range(1000), len(rests_of(part)))
            self.assertEqual(rests_of(numbered(part, list(numbers))), sorted(numbers))

    def test_great_numbers(self):
        part = ("then", ("rest", 10 ** 30), ("again", 3, ("rest", 10 ** 20)))
        self.assertEqual(rests_of(part), [3, 10 ** 20, 10 ** 30])

    def test_deep_parts(self):
        part = ("rest", 0)
        for number in range(1, 150):
            part = ("again", number, part)
        self.assertEqual(rests_of(part), list(range(150)))
        part = ("rest", 900)
        for number in range(150):
            part = ("then", ("rest", number), part) if number % 2 else ("beside", part, ("rest", number))
        self.assertEqual(rests_of(part), list(range(150)) + [900])


class Resting(unittest.TestCase):
    part = ("then", ("again", 4, ("rest", 9)), ("if", 2, ("rest", 1), ("send", 6)))

    def test_none_one_and_all(self):
        self.assertIs(resting(self.part, []), False)
        for state in ([1], [4], [9], [1, 4], [4, 9], [1, 4, 9]):
            self.assertIs(resting(self.part, state), True, state)

    def test_others_beside(self):
        for state in ([0], [2, 6], [0, 2, 3, 5, 6, 7, 8, 10], [14, 19, 49, 94]):
            self.assertIs(resting(self.part, state), False, state)
        for state in ([0, 1], [4, 99], [0, 9, 10], [0, 1, 2, 3, 4, 5, 6, 7, 8, 9, 10]):
            self.assertIs(resting(self.part, state), True, state)

    def test_parts_without_rests(self):
        for part in (N, ("send", 0), ("exit", 0), ("then", N, ("send", 1)), ("if", 1, N, ("trap", ("exit", 0)))):
            for state in ([], [0], [0, 1, 2]):
                self.assertIs(resting(part, state), False)

    def test_the_rest_numbered_0(self):
        self.assertIs(resting(("rest", 0), [0]), True)
        self.assertIs(resting(("again", 0, N), [0]), True)
        self.assertIs(resting(("rest", 0), [1]), False)

    def test_numbers_of_signs_and_exits_are_none_of_rests(self):
        part = ("watch", 3, ("hold", 5, ("if", 7, ("send", 2), ("trap", ("then", ("rest", 8), ("exit", 1))))))
        self.assertIs(resting(part, [1, 2, 3, 5, 7]), False)
        self.assertIs(resting(part, [1, 2, 3, 5, 7, 8]), True)

    def test_states_to_which_no_program_can_come(self):
        body = plain(read("in a;out;rest;rest;if a{rest}else{rest}"))[3]
        self.assertIs(resting(body, [0, 1, 2, 3]), True)
        self.assertIs(resting(body, [2, 3]), True)
        self.assertIs(resting(body[1], [2, 3]), False)
        self.assertIs(resting(body[2], [2, 3]), True)

    def test_ahead_of_the_first_instant_nothing_rests(self):
        self.assertIs(resting(self.part, None), False)

    def test_many(self):
        sampler = Sampler(13)
        for count in range(300):
            part = plain(sampler.named(count % 40 + 1))[3]
            state = sorted(sampler.chance.sample(range(60), sampler.chance.randint(0, 8)))
            self.assertIs(resting(part, state), bool(set(rests_of(part)) & set(state)))


if __name__ == "__main__":
    unittest.main()
