"""Point [7], and how many parts a block has."""

import unittest

from samples import Sampler, body, filled, open_marks, row_of
from signalwise.reading import read
from signalwise.showing import parts, shown

N = ("nothing",)
R = ("rest",)
H = ("halt",)


def pairs(depth):
    """All blocks of then and beside so deep, put together in every way."""
    if depth == 0:
        return [R]
    lower = pairs(depth - 1)
    return [R] + [(word, left, right) for word in ("then", "beside") for left in lower for right in lower]


class Showing(unittest.TestCase):
    def again(self, named):
        text = shown(named)
        self.assertIsInstance(text, str)
        self.assertEqual(read(text), named, text)
        self.assertLessEqual(len(text), 3000)
        self.assertLessEqual(open_marks(text), 16)

    def test_each_kind_of_part(self):
        for block in (
            N, R, H, ("send", "a"), ("keep", "a"), ("await", "a"), ("if", "a", R, H), ("if", "a", R, N),
            ("if", "a", N, R), ("if", "a", N, N), ("again", R), ("hold", "a", R), ("watch", "a", R), ("weak", "a", R),
            ("trap", "t", ("exit", "t")), ("local", "s", ("send", "s")), ("then", R, H), ("beside", R, H),
        ):
            self.again((["a"], ["b"], block))
            for word in ("then", "beside"):
                self.again((["a"], [], (word, block, R)))
                self.again((["a"], [], (word, R, block)))
            self.again((["a"], [], ("again", block)))
            self.again((["a"], [], ("if", "a", block, block)))
            self.again((["a"], [], ("local", "q", ("trap", "q", block))))

    def test_then_and_beside_put_together_in_every_way(self):
        for block in pairs(3):
            self.again(([], [], block))

    def test_long_rows_from_the_left_and_from_the_right(self):
        for word in ("then", "beside"):
            left = right = R
            for _ in range(16):
                left = (word, left, R)
                right = (word, R, right)
                self.again(([], [], left))
                self.again(([], [], right))
            other = "then" if word == "beside" else "beside"
            self.again(([], [], (other, left, R)))
            self.again(([], [], (other, R, left)))

    def test_ins_and_outs(self):
        for ins in ([], ["a"], ["b", "a"]):
            for outs in ([], ["x"], ["z", "y", "abcdefgh"]):
                self.again((ins, outs, N))

    def test_many_named_programs(self):
        sampler = Sampler(7)
        tried = 0
        while tried < 1500:
            named = sampler.named(sampler.chance.randint(1, 60))
            text = sampler.wordy(named)
            if len(text) <= 3000 and open_marks(text) <= 16:
                self.again(read(text))
                tried += 1

    def test_60_parts(self):
        for text in (
            "again{" + row_of(30) + "}", "again{" + row_of(30).replace(";", "|") + "}", row_of(28) + ";if a{again{rest}}",
            "if a{rest};" * 14 + "if a{send a}", row_of(28) + ";if a{again{rest}}else{nothing}",
        ):
            named = read(body(text))
            self.assertGreaterEqual(parts(named[2]), 59)
            self.again(named)

    def test_16_open_marks(self):
        for text in (
            "again{" * 16 + "rest" + "}" * 16, "{" * 16 + "rest" + "}" * 16, "rest;{" * 16 + "rest" + "}" * 16,
            "rest|{" * 16 + "rest" + "}" * 16, "rest|{rest;{" * 8 + "rest" + "}}" * 8, "if a{" * 16 + "rest" + "}" * 16,
            "if a{rest}else{" * 16 + "rest" + "}" * 16, "again{" * 15 + "{" + row_of(22) + "}" + "}" * 15,
            "again{" * 16 + row_of(8) + "|" + row_of(8) + "}" * 16,
            "{" * 8 + "again{" * 7 + "{rest;rest};{rest|rest}" + "}" * 7 + "}" * 8,
        ):
            named = read(body(text))
            self.again(named)

    def test_nearly_3000_signs(self):
        block = "local s{" + "if s{" * 14 + row_of(8) + "|{rest|rest};rest" + "}" * 14 + "else{send s}" + "}"
        for size in list(range(2900, 3000, 9)) + list(range(2988, 3001)):
            text = filled(size, block)
            self.assertEqual(len(text), size)
            self.again(read(text))

    def test_a_text_that_could_not_be_shorter_is_not_shown_longer(self):
        for block in (
            "nothing", "local s{if s{rest}else{rest;{rest|rest}}|if s{{rest|rest};rest};again{weak s{rest}}}",
            "local s{" * 16 + "send s" + "}" * 16, "rest;{" * 16 + "rest;rest" + "}" * 16, row_of(30),
        ):
            self.assertEqual(len(shown(read(filled(3000, block)))), 3000)
            self.again(read(filled(3000, block)))


class Parts(unittest.TestCase):
    def test_each_kind_of_tuple(self):
        for block, number in (
            (N, 1), (R, 1), (H, 1), (("send", "a"), 1), (("keep", "a"), 1), (("await", "a"), 1), (("exit", "t"), 1),
            (("if", "a", R, N), 3), (("again", R), 2), (("hold", "a", R), 2), (("watch", "a", R), 2),
            (("weak", "a", R), 2), (("trap", "t", R), 2), (("local", "s", R), 2), (("then", R, H), 3), (("beside", R, H), 3),
        ):
            self.assertEqual(parts(block), number, block)
            self.assertEqual(parts(("again", block)), number + 1)
            self.assertEqual(parts(("then", block, block)), 2 * number + 1)
            self.assertEqual(parts(("if", "a", R, block)), number + 2)
            self.assertEqual(parts(("if", "a", block, R)), number + 2)

    def test_blocks_within_blocks(self):
        self.assertEqual(parts(read(body("rest;rest;rest|local s{if a{send s}};trap t{exit t}"))[2]), 13)
        sampler = Sampler(11)
        for size in range(1, 151):
            self.assertEqual(parts(sampler.block(size, ["a"], [])), size)

    def test_deep_blocks(self):
        left = right = R
        for _ in range(74):
            left = ("then", left, R)
            right = ("beside", R, right)
        self.assertEqual(parts(left), 149)
        self.assertEqual(parts(right), 149)


if __name__ == "__main__":
    unittest.main()
