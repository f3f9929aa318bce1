"""Point [2]: nothing handed in is changed, and lists that are given back are the asker's own."""

import copy
import unittest

from samples import Sampler, open_marks
from signalwise.gates import ring, steps, values
from signalwise.instants import fits, instant, ran
from signalwise.looking import comings, looked
from signalwise.nets import net_of
from signalwise.plain import plain
from signalwise.reading import read
from signalwise.rests import rests_of, resting
from signalwise.settling import rounds, settled
from signalwise.showing import parts, shown
from signalwise.walking import walked

TEXT = "in a b;out c;local s{again{if a{send s;rest}else{weak b{keep c}}}}"
LET = "in a;out b;again{rest;if a{send b}}|await a;send b"
REFUSED = "in a b;out c;rest;rest;await b;await b;if a{if c{send c}}"
HELD = "in a b;out c d;hold a{rest;send c|await b;send d|again{if c{send d}}}"
NET = ([("given", (1,)), ("memory", (0,)), ("some", (0, 3)), ("not", (2,)), ("start", ()), ("not", (5,)), ("all", ())],
       [0, 2], (4, 6), [1])


def askings():
    """Each function from the instants on, with what is handed in to it."""
    program = plain(read(HELD))
    for state in (None, [], [0, 1, 2], [1, 2]):
        for signs in ([], [0], [1], [1, 3], [0, 1, 2, 3]):
            for sure in (True, False):
                yield walked, (program[3], state, sure, [True if sign in signs else None for sign in range(4)])
            yield ran, (program[3], state, signs)
            yield instant, (program, state, signs)
            yield fits, (program, state, list(reversed(signs)), [3, 0])
            yield rounds, (program, state, signs)
            yield settled, (program, state, signs)
            yield values, (NET, state, signs)
            yield steps, (NET, state, signs)
            yield ring, (NET, state, signs)
            yield values, (net_of(program), state, signs)
    for text in (TEXT, HELD, LET, REFUSED, "in;out;nothing"):
        yield net_of, (plain(read(text)),)
        yield looked, (plain(read(text)),)
    for came in range(6):
        yield comings, (came,)


def lists_in(value):
    """All lists of a value, those within others too."""
    found = [value] if isinstance(value, list) else []
    if isinstance(value, (list, tuple)):
        for inner in value:
            found += lists_in(inner)
    return found


class HandedIn(unittest.TestCase):
    def test_nothing_is_changed(self):
        sampler = Sampler(2)
        for count in range(200):
            named = sampler.named(count % 40 + 1)
            ahead = copy.deepcopy(named)
            shown(named)
            parts(named[2])
            program = plain(named)
            self.assertEqual(named, ahead)
            state = [0, 2, 5]
            program_ahead = copy.deepcopy(program)
            rests_of(program[3])
            resting(program[3], state)
            self.assertEqual(program, program_ahead)
            self.assertEqual(state, [0, 2, 5])

    def test_the_same_is_told_at_every_asking(self):
        sampler = Sampler(3)
        for count in range(100):
            named = sampler.named(count % 40 + 1)
            text = shown(named)
            self.assertEqual(shown(named), text)
            self.assertEqual(plain(named), plain(copy.deepcopy(named)))
            if open_marks(text) <= 16:
                self.assertEqual(read(text), read(text))

    def test_what_is_done_later_to_what_was_handed_in_changes_no_answer(self):
        named = read(TEXT)
        program = plain(named)
        text = shown(named)
        named[0].clear()
        named[1].append("z")
        self.assertEqual(plain(read(TEXT)), program)
        self.assertEqual(shown(read(TEXT)), text)
        self.assertEqual(program[:3], (2, 1, 4))


class GivenBack(unittest.TestCase):
    def test_lists_of_read(self):
        first = read(TEXT)
        second = read(TEXT)
        first[0].append("z")
        first[1].clear()
        self.assertEqual(second[:2], (["a", "b"], ["c"]))
        self.assertEqual(read(TEXT)[:2], (["a", "b"], ["c"]))

    def test_ins_and_outs_are_two_lists(self):
        named = read("in;out;nothing")
        named[0].append("a")
        self.assertEqual(named[1], [])
        self.assertEqual(read("in;out;nothing"), ([], [], ("nothing",)))

    def test_lists_of_rests_of(self):
        part = plain(read(TEXT))[3]
        for one in (part, ("nothing",), ("rest", 3)):
            first = rests_of(one)
            told = list(first)
            first.append(99)
            first.reverse()
            self.assertEqual(rests_of(one), told)


class AskedOfInstantsAndNets(unittest.TestCase):
    def test_nothing_handed_in_is_changed(self):
        for asked, handed in askings():
            ahead = copy.deepcopy(handed)
            asked(*handed)
            self.assertEqual(handed, ahead, asked)

    def test_lists_given_back_are_new_ones(self):
        for asked, handed in askings():
            own = lists_in(asked(*handed)) + lists_in(handed)
            self.assertEqual(len(own), len({id(one) for one in own}), asked)

    def test_changing_what_was_given_back_changes_no_later_answer(self):
        for asked, handed in askings():
            told = asked(*handed)
            kept = copy.deepcopy(told)
            ahead = copy.deepcopy(handed)
            for one in lists_in(told):
                one.append((0, True))
                one.reverse()
            self.assertEqual(handed, ahead, asked)
            self.assertEqual(asked(*handed), kept, asked)

    def test_changing_what_was_handed_in_changes_nothing_told(self):
        for asked, handed in askings():
            handed = copy.deepcopy(handed)
            ahead = copy.deepcopy(handed)
            told = asked(*handed)
            kept = copy.deepcopy(told)
            for one in lists_in(handed):
                one.clear()
            self.assertEqual(told, kept, asked)
            self.assertEqual(asked(*ahead), kept, asked)


if __name__ == "__main__":
    unittest.main()
