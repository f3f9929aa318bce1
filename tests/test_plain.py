"""Points [8] and [9]: named programs become plain ones."""

import unittest

from samples import Sampler
from signalwise.plain import plain
from signalwise.reading import read
from signalwise.showing import parts
from signalwise.tree import every_part

N = ("nothing",)
R = ("rest",)
H = ("halt",)


def of_text(text):
    return plain(read("in a b;out c;" + text))[3]


def waiting(k):
    return ("again", k, N)


def weak(s, k, part):
    return ("trap", ("beside", ("then", part, ("exit", 0)), ("then", ("watch", s, waiting(k)), ("exit", 0))))


def inner_paths(part, path=()):
    """Where the parts within a named part stand, in the order of their words."""
    found = [path]
    for place, piece in enumerate(part):
        if isinstance(piece, tuple):
            found += inner_paths(piece, path + (place,))
    return found


def at(part, path):
    for place in path:
        part = part[place]
    return part


class Looked:
    """Plain programs told another way: every number is looked up by where its part stands in the whole."""

    def __init__(self, named):
        self.ins, self.outs, self.block = named
        paths = inner_paths(self.block)
        self.locals = [path for path in paths if at(self.block, path)[0] == "local"]
        # Behind all the places within it, a part ends: a great number behind its path says so.
        ends = sorted(paths, key=lambda path: path + (99,))
        words = ("rest", "halt", "keep", "await", "again", "weak")
        self.rests = [path for path in ends if at(self.block, path)[0] in words]

    def program(self):
        signs = len(self.ins) + len(self.outs) + len(self.locals)
        return (len(self.ins), len(self.outs), signs, self.part(()))

    def sign(self, path):
        name = at(self.block, path)[1]
        for size in reversed(range(len(path))):
            outer = at(self.block, path[:size])
            if outer[:2] == ("local", name):
                return len(self.ins) + len(self.outs) + self.locals.index(path[:size])
        return (self.ins + self.outs).index(name)

    def leaving(self, path):
        name = at(self.block, path)[1]
        between = 0
        for size in reversed(range(len(path))):
            outer = at(self.block, path[:size])
            if outer[:2] == ("trap", name):
                return between
            between += outer[0] in ("trap", "weak")
        raise AssertionError("no trap")

    def part(self, path):
        named = at(self.block, path)
        word = named[0]
        inner = [self.part(path + (place,)) for place, piece in enumerate(named) if isinstance(piece, tuple)]
        if word == "nothing":
            return N
        if word == "exit":
            return ("exit", self.leaving(path))
        if word == "local":
            return inner[0]
        if word == "trap":
            return ("trap", inner[0])
        if word in ("then", "beside"):
            return (word, *inner)
        if word == "rest":
            return ("rest", self.rests.index(path))
        if word == "halt":
            return waiting(self.rests.index(path))
        if word == "again":
            return ("again", self.rests.index(path), inner[0])
        s = self.sign(path)
        if word == "keep":
            return ("again", self.rests.index(path), ("send", s))
        if word == "await":
            return ("watch", s, waiting(self.rests.index(path)))
        if word == "weak":
            return weak(s, self.rests.index(path), inner[0])
        return (word, s, *inner)


class EachPart(unittest.TestCase):
    def test_what_each_named_part_becomes(self):
        told = {
            "nothing": N,
            "rest": ("rest", 0),
            "halt": waiting(0),
            "send c": ("send", 2),
            "keep b": ("again", 0, ("send", 1)),
            "await b": ("watch", 1, waiting(0)),
            "if a{rest}else{halt}": ("if", 0, ("rest", 0), waiting(1)),
            "if c{rest}": ("if", 2, ("rest", 0), N),
            "again{rest}": ("again", 1, ("rest", 0)),
            "again{nothing}": waiting(0),
            "hold b{rest}": ("hold", 1, ("rest", 0)),
            "watch c{rest}": ("watch", 2, ("rest", 0)),
            "weak b{rest}": weak(1, 1, ("rest", 0)),
            "weak c{nothing}": weak(2, 0, N),
            "trap t{rest}": ("trap", ("rest", 0)),
            "trap t{exit t}": ("trap", ("exit", 0)),
            "local s{rest}": ("rest", 0),
            "local s{send s}": ("send", 3),
            "rest;send a": ("then", ("rest", 0), ("send", 0)),
            "rest|send a": ("beside", ("rest", 0), ("send", 0)),
        }
        for text, part in told.items():
            self.assertEqual(of_text(text), part, text)

    def test_a_weak_is_written_out(self):
        self.assertEqual(of_text("weak a{send c}"), (
            "trap",
            ("beside",
             ("then", ("send", 2), ("exit", 0)),
             ("then", ("watch", 0, ("again", 0, ("nothing",))), ("exit", 0))),
        ))


class Signs(unittest.TestCase):
    def test_how_many(self):
        self.assertEqual(plain(([], [], N)), (0, 0, 0, N))
        self.assertEqual(plain((["x", "y"], ["z"], N)), (2, 1, 3, N))
        self.assertEqual(plain((["x"], ["y", "z"], ("local", "q", ("local", "q", N)))), (1, 2, 5, N))
        self.assertEqual(plain(([], [], ("local", "q", N))), (0, 0, 1, N))

    def test_ins_then_outs_in_their_order(self):
        told = plain(read("in z a m;out y b;if y{send b}else{hold m{watch a{send z}}}"))
        self.assertEqual(told, (3, 2, 5, ("if", 3, ("send", 4), ("hold", 2, ("watch", 1, ("send", 0))))))
        self.assertEqual(plain((["z", "a"], ["y"], ("send", "y")))[3], ("send", 2))
        self.assertEqual(plain((["z", "a"], ["y"], ("send", "a")))[3], ("send", 1))

    def test_locals_in_the_order_of_their_words(self):
        self.assertEqual(
            of_text("local z{local a{send a;send z}};local m{send m}"),
            ("then", ("then", ("send", 4), ("send", 3)), ("send", 5)),
        )
        self.assertEqual(
            of_text("if a{local x{send x}}else{local y{send y}}|local w{send w}"),
            ("beside", ("if", 0, ("send", 3), ("send", 4)), ("send", 5)),
        )
        self.assertEqual(of_text("local x{rest};{local y{rest};local z{send z}}")[2][2], ("send", 5))

    def test_the_nearest_local_counts(self):
        self.assertEqual(
            of_text("local s{send s;local s{send s};send s}"),
            ("then", ("then", ("send", 3), ("send", 4)), ("send", 3)),
        )
        self.assertEqual(
            of_text("send a;local a{send a};send a"),
            ("then", ("then", ("send", 0), ("send", 3)), ("send", 0)),
        )
        self.assertEqual(of_text("local s{local q{local s{local q{send s;send q}}}}"), ("then", ("send", 5), ("send", 6)))

    def test_the_sign_is_that_of_its_own_place(self):
        self.assertEqual(of_text("weak a{local a{send a}}"), weak(0, 0, ("send", 3)))
        self.assertEqual(of_text("local a{weak a{local a{send a}}}"), weak(3, 0, ("send", 4)))
        self.assertEqual(of_text("watch a{local a{await a}}"), ("watch", 0, ("watch", 3, waiting(0))))
        self.assertEqual(of_text("local a{if a{local a{keep a}}else{keep a}}")[1:], (3, ("again", 0, ("send", 4)), ("again", 1, ("send", 3))))

    def test_traps_of_a_signs_name_change_no_sign(self):
        self.assertEqual(of_text("local s{trap s{send s;exit s}}"), ("trap", ("then", ("send", 3), ("exit", 0))))


class Exits(unittest.TestCase):
    def test_through_traps_of_other_names(self):
        self.assertEqual(of_text("trap t{trap u{exit t}}"), ("trap", ("trap", ("exit", 1))))
        self.assertEqual(of_text("trap t{trap u{exit u}}"), ("trap", ("trap", ("exit", 0))))
        self.assertEqual(
            of_text("trap x{trap y{trap z{exit x;exit y;exit z}}}"),
            ("trap", ("trap", ("trap", ("then", ("then", ("exit", 2), ("exit", 1)), ("exit", 0))))),
        )

    def test_of_traps_of_one_name_the_nearest_is_left(self):
        self.assertEqual(of_text("trap t{trap t{exit t}}"), ("trap", ("trap", ("exit", 0))))
        self.assertEqual(of_text("trap t{trap t{trap u{exit t}}}"), ("trap", ("trap", ("trap", ("exit", 1)))))
        self.assertEqual(of_text("trap t{trap t{rest};exit t}"), ("trap", ("then", ("trap", ("rest", 0)), ("exit", 0))))

    def test_through_weak(self):
        self.assertEqual(of_text("trap t{weak a{exit t}}"), ("trap", weak(0, 0, ("exit", 1))))
        self.assertEqual(of_text("trap t{weak a{weak b{exit t}}}"), ("trap", weak(0, 1, weak(1, 0, ("exit", 2)))))
        self.assertEqual(of_text("weak a{trap t{exit t}}"), weak(0, 0, ("trap", ("exit", 0))))
        self.assertEqual(
            of_text("trap t{weak a{trap u{weak b{exit t|exit u}}}}"),
            ("trap", weak(0, 1, ("trap", weak(1, 0, ("beside", ("exit", 3), ("exit", 1)))))),
        )
        self.assertEqual(of_text("trap a{weak a{exit a}}"), ("trap", weak(0, 0, ("exit", 1))))
        self.assertEqual(
            of_text("trap t{weak a{rest};exit t}"),
            ("trap", ("then", weak(0, 1, ("rest", 0)), ("exit", 0))),
        )


class Rests(unittest.TestCase):
    def test_in_the_order_in_which_parts_end(self):
        self.assertEqual(of_text("rest;{rest;rest}"), ("then", ("rest", 0), ("then", ("rest", 1), ("rest", 2))))
        self.assertEqual(of_text("again{rest};rest"), ("then", ("again", 1, ("rest", 0)), ("rest", 2)))
        self.assertEqual(of_text("rest;again{rest}"), ("then", ("rest", 0), ("again", 2, ("rest", 1))))
        self.assertEqual(of_text("again{again{rest};halt}"), ("again", 3, ("then", ("again", 1, ("rest", 0)), waiting(2))))
        self.assertEqual(
            of_text("if a{await b}else{keep c};rest"),
            ("then", ("if", 0, ("watch", 1, waiting(0)), ("again", 1, ("send", 2))), ("rest", 2)),
        )

    def test_those_of_weak_behind_those_in_its_part(self):
        self.assertEqual(of_text("weak a{rest;rest};rest"), ("then", weak(0, 2, ("then", ("rest", 0), ("rest", 1))), ("rest", 3)))
        self.assertEqual(of_text("weak a{again{rest}}"), weak(0, 2, ("again", 1, ("rest", 0))))
        self.assertEqual(of_text("again{weak a{rest}}"), ("again", 2, weak(0, 1, ("rest", 0))))
        self.assertEqual(of_text("weak a{weak b{halt}}"), weak(0, 2, weak(1, 1, waiting(0))))


class Whole(unittest.TestCase):
    def test_many_named_programs(self):
        sampler = Sampler(9)
        for count in range(900):
            named = sampler.named(count % 150 + 1)
            self.assertEqual(plain(named), Looked(named).program(), named)

    def test_kinds(self):
        told = plain(read("in a;out b;local s{again{if s{send b};rest}}"))
        self.assertIs(type(told), tuple)
        for number in told[:3]:
            self.assertIs(type(number), int)
        for part in every_part(told[3]):
            self.assertIs(type(part), tuple)
            for piece in part[1:]:
                self.assertIn(type(piece), (int, tuple))

    def test_150_tuples_deep_or_wide(self):
        left = right = beside = agains = traps = weaks = R
        for _ in range(74):
            left = ("then", left, H)
            right = ("then", H, right)
            beside = ("beside", R, beside)
        for _ in range(149):
            agains = ("again", agains)
            weaks = ("weak", "a", weaks)
        inner = ("exit", "t")
        for number in range(149):
            traps = ("trap", "t" if number == 148 else "u", inner)
            inner = traps
        named_local = ("send", "s")
        for _ in range(149):
            named_local = ("local", "s", named_local)
        for block in (left, right, beside, agains, traps, named_local, weaks):
            self.assertLessEqual(parts(block), 150)
            named = (["a"], ["b"], block)
            self.assertEqual(plain(named), Looked(named).program())
        self.assertEqual(plain((["a"], ["b"], named_local)), (1, 1, 151, ("send", 150)))
        self.assertIn(("exit", 148), every_part(plain(([], [], traps))[3]))

    def test_named_programs_beyond_the_bounds_of_texts(self):
        row = R
        for _ in range(40):
            row = ("then", R, row)
        told = plain(([], [], row))[3]
        for number in range(40):
            self.assertEqual(told[1], ("rest", number))
            told = told[2]
        self.assertEqual(told, ("rest", 40))
        names = ["n" + first + second + third for first in "abcdefghi" for second in "abcdefghi" for third in "abcdefghij"]
        self.assertEqual(plain((names, ["o"], ("send", "o"))), (810, 1, 811, ("send", 810)))


if __name__ == "__main__":
    unittest.main()
