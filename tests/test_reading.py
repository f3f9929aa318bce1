"""Points [4] and [5]: what is read of texts that are let."""

import unittest

from samples import Sampler, body, open_marks
from signalwise.reading import read

N = ("nothing",)
R = ("rest",)
H = ("halt",)


def block_of(text):
    return read(body(text))[2]


class EachPart(unittest.TestCase):
    def test_each_kind_of_part(self):
        told = {
            "nothing": N,
            "rest": R,
            "halt": H,
            "send a": ("send", "a"),
            "keep c": ("keep", "c"),
            "await b": ("await", "b"),
            "if a {rest} else {halt}": ("if", "a", R, H),
            "again {rest}": ("again", R),
            "hold a {rest}": ("hold", "a", R),
            "watch b {rest}": ("watch", "b", R),
            "weak c {rest}": ("weak", "c", R),
            "trap t {rest}": ("trap", "t", R),
            "trap t {exit t}": ("trap", "t", ("exit", "t")),
            "local s {send s}": ("local", "s", ("send", "s")),
            "{rest}": R,
        }
        for text, block in told.items():
            self.assertEqual(block_of(text), block, text)

    def test_blocks_stand_within_each_part_with_braces(self):
        inner = ("beside", ("then", R, H), N)
        for head in ("hold a", "watch a", "weak a", "trap a", "local a"):
            word = head.split()[0]
            self.assertEqual(block_of(head + "{rest;halt|nothing}"), (word, "a", inner), head)
        self.assertEqual(block_of("again{rest;halt|nothing}"), ("again", inner))
        self.assertEqual(block_of("if a{rest;halt|nothing}else{rest;halt|nothing}"), ("if", "a", inner, inner))
        self.assertEqual(block_of("{rest;halt|nothing}"), inner)

    def test_if_with_else_without_and_with_an_else_of_nothing(self):
        self.assertEqual(block_of("if a{rest}else{halt}"), ("if", "a", R, H))
        self.assertEqual(block_of("if a{rest}"), ("if", "a", R, N))
        self.assertEqual(block_of("if a{rest}else{nothing}"), ("if", "a", R, N))
        self.assertEqual(block_of("if a{if b{rest}}else{halt}"), ("if", "a", ("if", "b", R, N), H))
        self.assertEqual(block_of("if a{if b{rest}else{halt}}"), ("if", "a", ("if", "b", R, H), N))


class Rows(unittest.TestCase):
    def test_the_left_ones_are_put_together_first(self):
        self.assertEqual(block_of("rest;halt"), ("then", R, H))
        self.assertEqual(block_of("rest;halt;nothing"), ("then", ("then", R, H), N))
        self.assertEqual(block_of("rest;halt;nothing;rest"), ("then", ("then", ("then", R, H), N), R))
        self.assertEqual(block_of("rest|halt"), ("beside", R, H))
        self.assertEqual(block_of("rest|halt|nothing"), ("beside", ("beside", R, H), N))
        self.assertEqual(block_of("rest|halt|nothing|rest"), ("beside", ("beside", ("beside", R, H), N), R))

    def test_rows_stand_within_blocks(self):
        told = ("beside", ("beside", ("then", R, H), N), ("then", ("then", R, R), H))
        self.assertEqual(block_of("rest;halt|nothing|rest;rest;halt"), told)

    def test_braces_put_others_together(self):
        self.assertEqual(block_of("rest;{halt;nothing}"), ("then", R, ("then", H, N)))
        self.assertEqual(block_of("rest|{halt|nothing}"), ("beside", R, ("beside", H, N)))
        self.assertEqual(block_of("{rest|halt};nothing"), ("then", ("beside", R, H), N))
        self.assertEqual(block_of("rest;{halt|nothing}"), ("then", R, ("beside", H, N)))

    def test_braces_that_are_not_needed(self):
        self.assertEqual(block_of("{{{rest}}}"), R)
        self.assertEqual(block_of("{{rest};{halt}};nothing"), ("then", ("then", R, H), N))
        self.assertEqual(block_of("{rest;halt}|{nothing}"), ("beside", ("then", R, H), N))
        self.assertEqual(block_of("again{{rest}}"), ("again", R))


class Heads(unittest.TestCase):
    def test_ins_and_outs(self):
        self.assertEqual(read("in;out;nothing"), ([], [], N))
        self.assertEqual(read("in a;out;nothing"), (["a"], [], N))
        self.assertEqual(read("in;out a;nothing"), ([], ["a"], N))
        self.assertEqual(read("in c a b;out z y;nothing"), (["c", "a", "b"], ["z", "y"], N))

    def test_kinds(self):
        named = read("in a;out b;rest;send b")
        self.assertIs(type(named), tuple)
        self.assertIs(type(named[0]), list)
        self.assertIs(type(named[1]), list)
        self.assertIs(type(named[2]), tuple)

    def test_names_of_one_letter_and_of_eight(self):
        self.assertEqual(read("in z abcdefgh;out;send abcdefgh;send z")[0], ["z", "abcdefgh"])
        self.assertEqual(block_of("trap zyxwvuts{exit zyxwvuts}"), ("trap", "zyxwvuts", ("exit", "zyxwvuts")))

    def test_names_that_begin_or_end_like_kept_words(self):
        names = ["inn", "ou", "outs", "rests", "i", "iff", "els", "sendrest", "localx", "a", "n"]
        self.assertEqual(read("in " + " ".join(names) + ";out;nothing")[0], names)

    def test_all_letters(self):
        names = list("abcdefghijklmnopqrstuvwxyz")
        self.assertEqual(read("in " + " ".join(names) + ";out;send z")[0], names)


class Blanks(unittest.TestCase):
    def test_any_number_of_blanks_and_line_feeds(self):
        told = read("in a b;out c;if a{send c;rest}else{halt|nothing}")
        wide = "\n \nin\na  b\n\n; out \n c ;\n\nif\n\na { send\nc ; rest } else\n{ halt | nothing }\n \n"
        self.assertEqual(read(wide), told)

    def test_many_wordy_texts(self):
        sampler = Sampler(4)
        read_ones = 0
        while read_ones < 600:
            named = sampler.named(sampler.chance.randint(1, 60))
            text = sampler.wordy(named)
            if len(text) <= 3000 and open_marks(text) <= 16:
                self.assertEqual(read(text), named, text)
                read_ones += 1


if __name__ == "__main__":
    unittest.main()
