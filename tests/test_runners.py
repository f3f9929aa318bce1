"""Point [20]: programs and their nets run from instant to instant."""

import copy
import unittest

import second
from great import great_programs
from samples import Sampler
from signalwise.errors import Unsettled, WiseError
from signalwise.instants import instant
from signalwise.nets import net_of
from signalwise.plain import plain
from signalwise.reading import read
from signalwise.runners import Netted, Runner, Walker
from signalwise.settling import settled


def both(program):
    return Walker(program), Netted(net_of(program))


def both_of(text):
    return both(plain(read(text)))


class Running(unittest.TestCase):
    def runs(self, text, *rows):
        """Rows of what comes, what is there, and the state behind it; None where it is not settled."""
        for runner in both_of(text):
            self.assertIsNone(runner.state())
            for coming, there, state in rows:
                if there is None:
                    self.assertRaises(Unsettled, runner.tick, coming)
                else:
                    self.assertEqual(runner.tick(coming), there, (text, coming))
                self.assertEqual(runner.state(), state, (text, coming))

    def test_kinds(self):
        for runner in both_of("in;out;rest"):
            self.assertIsInstance(runner, Runner)
            self.assertIsNone(runner.state())
            self.assertIs(type(runner.tick([])), list)
            self.assertIs(type(runner.state()), list)
        self.assertFalse(issubclass(Walker, Netted) or issubclass(Netted, Walker))

    def test_to_the_end_and_behind_it(self):
        self.runs("in a;out b;await a;send b", ([], [], [0]), ([], [], [0]), ([0], [0, 1], []), ([], [], []),
                  ([0], [0], []), ([0], [0], []))
        self.runs("in;out;nothing", ([], [], []), ([], [], []))
        self.runs("in a;out b;send b", ([0], [0, 1], []), ([0], [0], []))

    def test_a_program_that_never_ends(self):
        self.runs("in a;out b;again{if a{send b};rest}", *[([0], [0, 1], [0]), ([0], [0], [1])] * 5,
                  *[([], [], [0]), ([], [], [1])] * 5)

    def test_coming_signs_in_any_order_twice_and_none(self):
        text = "in a b c;out d e;again{if a{send d};if c{send e}}"
        self.runs(text, ([2, 0], [0, 2, 3, 4], [0]), ([0, 0], [0, 3], [0]), ([2, 1, 2, 1, 2], [1, 2, 4], [0]),
                  ([], [], [0]), ([1, 0, 2, 0], [0, 1, 2, 3, 4], [0]))

    def test_signs_that_are_local_are_told(self):
        self.runs("in;out b;local s{send s;if s{send b}}", ([], [0, 1], []))
        self.runs("in;out;local s{send s;rest;rest;send s}", ([], [0], [0]), ([], [], [1]), ([], [0], []))

    def test_a_sign_that_comes_and_is_sent_is_told_once(self):
        self.runs("in a;out;send a", ([0], [0], []))
        self.runs("in a;out;keep a", ([], [0], [0]), ([0], [0], [0]))

    def test_holds_watches_and_weaks(self):
        self.runs("in a;out b;hold a{rest;send b;rest}", ([0], [0], [0]), ([0], [0], [0]), ([], [1], [1]),
                  ([0], [0], [1]), ([], [], []))
        self.runs("in a;out b;watch a{keep b};rest", ([0], [0, 1], [0]), ([], [1], [0]), ([0], [0], [1]), ([], [], []))
        self.runs("in a;out b;weak a{keep b};rest", ([0], [0, 1], [0, 1]), ([], [1], [0, 1]), ([0], [0, 1], [2]),
                  ([], [], []))

    def test_not_settled_and_the_state_stays(self):
        text = "in a;out b c;rest;if a{if b{send b}};send c"
        self.runs(text, ([0], [0], [0]), ([0], None, [0]), ([0], None, [0]), ([], [2], []), ([0], [0], []))
        self.runs("in a;out b;if b{send b}", ([], None, None), ([0], None, None))
        self.runs("in a;out b;if a{nothing}else{if b{nothing}else{send b}};rest", ([], None, None), ([0], [0], [0]),
                  ([], [], []))

    def test_a_sign_not_settled_beside_others_that_are(self):
        self.runs("in a;out b c;again{send c;rest}|rest;if a{if b{send b}}", ([], [2], [0, 2]), ([0], None, [0, 2]),
                  ([], [], [1]), ([0], [0, 2], [0]))

    def test_the_refusal_is_taken_by_each_of_its_names(self):
        for runner in both_of("in;out b;if b{send b}"):
            for name in (Unsettled, WiseError, ValueError):
                with self.assertRaises(name) as taken:
                    runner.tick([])
                self.assertIs(type(taken.exception), Unsettled)


class Apart(unittest.TestCase):
    def test_two_runners_of_one_program(self):
        program = plain(read("in a;out b;await a;send b;rest"))
        net = net_of(program)
        for first, second_one in ((Walker(program), Walker(program)), (Netted(net), Netted(net)),
                                  (Walker(program), Netted(net))):
            first.tick([])
            self.assertIsNone(second_one.state())
            self.assertEqual(first.tick([0]), [0, 1])
            self.assertEqual(second_one.tick([0]), [0])
            self.assertEqual((first.state(), second_one.state()), ([1], [0]))
            first.tick([])
            self.assertEqual((first.state(), second_one.state()), ([], [0]))
            self.assertEqual(second_one.tick([0]), [0, 1])

    def test_what_was_told_is_the_asker_s_own(self):
        for runner in both_of("in a b;out c;again{send c;rest|await a}"):
            there = runner.tick([1])
            state = runner.state()
            self.assertEqual((there, state), ([1, 2], [0, 1]))
            self.assertIsNot(runner.state(), state)
            there.clear()
            state.append(7)
            self.assertEqual(runner.state(), [0, 1])
            kept = runner.state()
            self.assertEqual(runner.tick([]), [])
            self.assertEqual(kept, [0, 1])
            self.assertEqual(runner.state(), [1])
            self.assertEqual(runner.tick([0]), [0])
            self.assertEqual((there, state, kept), ([], [0, 1, 7], [0, 1]))

    def test_what_was_handed_in_stays_and_may_be_changed(self):
        for runner in both_of("in a b;out c;again{if b{send c}}"):
            coming = [1, 0, 1]
            there = runner.tick(coming)
            self.assertEqual(coming, [1, 0, 1])
            self.assertIsNot(there, coming)
            coming.clear()
            self.assertEqual(there, [0, 1, 2])
            self.assertEqual(runner.state(), [0])

    def test_a_net_is_not_changed_by_its_runs(self):
        net = net_of(plain(read("in a;out b;await a;send b;again{rest;send b}")))
        ahead = copy.deepcopy(net)
        runner = Netted(net)
        for coming in ([], [0], [], []):
            runner.tick(coming)
            self.assertEqual(net, ahead)

    def test_the_net_s_lists_changed_behind_the_making(self):
        program = plain(read("in a;out b;await a;send b;again{rest;send b}"))
        wanted = Walker(program)
        net = net_of(program)
        runner = Netted(net)
        for number in range(8):
            coming = [0] * (number % 2)
            self.assertEqual(runner.tick(coming), wanted.tick(coming))
            self.assertEqual(runner.state(), wanted.state())
            for changed in (net[0], net[1], net[3]):
                if number == 5:
                    changed.clear()
                elif number < 5:
                    changed.reverse()
                    changed.append(changed[0])


class Nets(unittest.TestCase):
    def test_a_net_made_by_hand(self):
        """In its first instant it rests; then it sends sign 1 where sign 0 comes, else it waits on itself."""
        gates = [("given", (0,)), ("start", ()), ("memory", (0,)), ("all", (2, 0)), ("not", (0,)), ("all", (2, 4, 6)),
                 ("some", (3, 5)), ("some", (1,)), ("some", ())]
        runner = Netted((gates, [0, 6], (3, 7), [7]))
        self.assertEqual((runner.tick([]), runner.state()), ([], [0]))
        self.assertRaises(Unsettled, runner.tick, [])
        self.assertEqual(runner.state(), [0])
        self.assertEqual((runner.tick([0]), runner.state()), ([0, 1], []))
        self.assertEqual((runner.tick([0]), runner.state()), ([0], []))


class Alike(unittest.TestCase):
    def alike(self, program, sampler, instants):
        """Both runners, and settled and instant beside them, over so many instants."""
        walker, netted = both(program)
        state = None
        for _ in range(instants):
            coming = sampler.some(range(program[0]))
            handed = coming + sampler.some(coming)
            sampler.chance.shuffle(handed)
            known = settled(program, state, coming)
            self.assertEqual(known, second.rounds(program, state, coming)[1])
            if None in known:
                self.assertRaises(Unsettled, walker.tick, handed)
                self.assertRaises(Unsettled, netted.tick, handed)
                self.waited += 1
            else:
                there = [sign for sign, value in enumerate(known) if value]
                state = instant(program, state, there)[2]
                self.assertEqual((walker.tick(handed), netted.tick(handed)), (there, there))
                self.done += 1
            self.assertEqual((walker.state(), netted.state()), (state, state))

    def setUp(self):
        self.waited = 0
        self.done = 0

    def test_named_programs(self):
        sampler = Sampler(201)
        for count in range(250):
            self.alike(plain(sampler.named(count % 45 + 1)), sampler, 8)
        self.assertGreater(min(self.waited, self.done), 100)

    def test_plain_programs(self):
        sampler = Sampler(202)
        for count in range(250):
            self.alike(sampler.program(count % 45 + 1, count % 4, 2, 6), sampler, 8)
        self.assertGreater(min(self.waited, self.done), 100)

    def test_long_runs(self):
        sampler = Sampler(203)
        lengths = (400, 410)
        for text in ("in a b;out c d;again{await a;send c;rest;if b{send d}}|again{hold b{rest;rest;rest;send c}}",
                     "in a b;out c d;again{weak a{again{rest;send c}|hold b{rest;rest;keep d}}}",
                     "in a b;out c d;again{trap t{again{if a{exit t};rest}|await b;if c{if d{send d}}};send c}"):
            for length in lengths:
                self.alike(plain(read(text)), sampler, length)
        self.assertGreater(self.waited, 30)
        self.assertGreater(self.done, 2000)

    def test_greatest_programs(self):
        sampler = Sampler(204)
        for program in great_programs():
            self.alike(program, sampler, 6)
        self.assertGreater(min(self.waited, self.done), 20)

    def test_a_long_run_of_a_great_program(self):
        rows = [("if", sign - 1, ("send", sign), ("nothing",)) for sign in range(1, 30)]
        whole = rows[0]
        for row in rows[1:]:
            whole = ("beside", row, whole)
        self.alike((1, 29, 30, ("again", 0, whole)), Sampler(205), 20)


if __name__ == "__main__":
    unittest.main()
