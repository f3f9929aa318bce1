"""Point [2]: nothing handed in is changed, and lists that are given back are the asker's own."""

import copy
import unittest

from samples import Sampler, open_marks
from signalwise.plain import plain
from signalwise.reading import read
from signalwise.rests import rests_of, resting
from signalwise.showing import parts, shown

TEXT = "in a b;out c;local s{again{if a{send s;rest}else{weak b{keep c}}}}"


class HandedIn(unittest.TestCase):
    def test_nothing_is_changed(self):
        sampler = Sampler(2)
        for count in range(200):
            named = sampler.named(count % 40 + 1)
            ahead = copy.deepcopy(named)
            shown(named)
            parts(named[2])
            program = plain(named)
            self.assertEqual(named, ahead)
            state = [0, 2, 5]
            program_ahead = copy.deepcopy(program)
            rests_of(program[3])
            resting(program[3], state)
            self.assertEqual(program, program_ahead)
            self.assertEqual(state, [0, 2, 5])

    def test_the_same_is_told_at_every_asking(self):
        sampler = Sampler(3)
        for count in range(100):
            named = sampler.named(count % 40 + 1)
            text = shown(named)
            self.assertEqual(shown(named), text)
            self.assertEqual(plain(named), plain(copy.deepcopy(named)))
            if open_marks(text) <= 16:
                self.assertEqual(read(text), read(text))

    def test_what_is_done_later_to_what_was_handed_in_changes_no_answer(self):
        named = read(TEXT)
        program = plain(named)
        text = shown(named)
        named[0].clear()
        named[1].append("z")
        self.assertEqual(plain(read(TEXT)), program)
        self.assertEqual(shown(read(TEXT)), text)
        self.assertEqual(program[:3], (2, 1, 4))


class GivenBack(unittest.TestCase):
    def test_lists_of_read(self):
        first = read(TEXT)
        second = read(TEXT)
        first[0].append("z")
        first[1].clear()
        self.assertEqual(second[:2], (["a", "b"], ["c"]))
        self.assertEqual(read(TEXT)[:2], (["a", "b"], ["c"]))

    def test_ins_and_outs_are_two_lists(self):
        named = read("in;out;nothing")
        named[0].append("a")
        self.assertEqual(named[1], [])
        self.assertEqual(read("in;out;nothing"), ([], [], ("nothing",)))

    def test_lists_of_rests_of(self):
        part = plain(read(TEXT))[3]
        for one in (part, ("nothing",), ("rest", 3)):
            first = rests_of(one)
            told = list(first)
            first.append(99)
            first.reverse()
            self.assertEqual(rests_of(one), told)


if __name__ == "__main__":
    unittest.main()
