"""Point [6]: what is refused, with which class, and in which order."""

import unittest

from samples import KEPT, body, filled, open_marks, row_of
from signalwise.errors import NoName, NoText, Twice, WiseError
from signalwise.reading import read
from signalwise.showing import parts

SIGN_PARTS = (
    "send {}", "keep {}", "await {}", "if {} {{rest}}", "if {} {{rest}}else{{rest}}",
    "hold {} {{rest}}", "watch {} {{rest}}", "weak {} {{rest}}",
)


class Refusing(unittest.TestCase):
    def refused(self, text, error):
        with self.assertRaises(WiseError) as caught:
            read(text)
        self.assertIs(type(caught.exception), error, text)
        self.assertIsInstance(caught.exception, ValueError)


class NoTexts(Refusing):
    def test_what_is_no_text(self):
        for thing in (None, 0, 7, True, False, [], ["in;out;nothing"], ("in;out;nothing",), b"in;out;nothing", {}):
            self.refused(thing, NoText)

    def test_other_signs(self):
        for sign in "\t\r\f\v\0" + "0179" + "AZ" + "_-+,.:!?()[]<>/\\'\"`~^&*@#$=" + chr(37) + chr(127):
            for text in (f"in a;out;send a{sign}", f"in{sign}a;out;nothing", f"in a{sign};out;nothing", sign):
                self.refused(text, NoText)

    def test_heads_of_other_form(self):
        for text in (
            "", " ", "\n", "in", "in;", "in;out", "in;out;", "in a;out b;", "nothing", "rest;halt",
            "out;in;nothing", "in out;nothing", "in;nothing", "in;in;nothing", "in a out b;nothing", "in a;b;nothing",
            "in;out nothing", "in;out|nothing", "in|out;nothing", "in{};out;nothing", "in;;out;nothing",
            "in;out;;nothing", "a in;out;nothing", ";in;out;nothing", "{in;out;nothing}", "inout;nothing",
            "in a;b;out;nothing", "ina;out;nothing", "in;outa;nothing", "in;out;out;nothing",
        ):
            self.refused(text, NoText)

    def test_blocks_of_other_form(self):
        for text in (
            "{}", "again{}", "if a{}", "if a{rest}else{}", "if a{}else{rest}", "hold a{}", "trap t{}", "local s{}",
            ";", "|", ";rest", "|rest", "rest;", "rest|", "rest;;rest", "rest||rest", "rest;|rest", "rest|;rest",
            "{rest;}", "{rest|}", "{;rest}", "{|rest}", "again{rest;}",
            "rest halt", "rest{halt}", "{rest}halt", "{rest}{halt}", "again{rest}again{rest}",
            "{", "}", "{rest", "rest}", "{rest}}", "{{rest}", "}{", "}rest{", "again{rest", "if a{rest", "if a{rest}else{rest",
            "nothing a", "rest a", "halt a", "nothing{rest}", "rest{rest}", "halt{rest}",
            "send", "keep", "await", "exit", "send;rest", "send a b", "send{a}", "send {rest}", "send a{rest}",
            "if", "if a", "if{rest}", "if a rest", "if a;rest", "if a b{rest}", "if a{rest}halt",
            "if a{rest}else", "if a{rest}else rest", "if a{rest}else a{rest}", "if a{rest};else{rest}",
            "if a{rest}else{rest}else{rest}", "else{rest}", "if a else{rest}", "rest else{rest}",
            "again{rest}else{rest}", "watch a{rest}else{rest}", "if a{rest}else if a{rest}",
            "again", "again rest", "again a{rest}", "hold", "hold a", "hold{rest}", "hold a rest", "hold a b{rest}",
            "watch", "watch a", "watch{rest}", "weak", "weak a", "weak{rest}", "trap", "trap t", "trap{rest}",
            "local", "local s", "local{rest}", "local s send s", "local s;send s",
            "a", "a{rest}", "foo", "in", "out", "sends a", "senda", "resthalt", "if a{rest}elsee{rest}",
        ):
            self.refused(body(text), NoText)

    def test_something_behind_the_end(self):
        for text in (" }", "}", " a", " nothing", "{rest}", " in", " else{rest}", ";", "|", " {", "; ;"):
            self.refused("in;out;nothing" + text, NoText)
            self.refused("in;out;again{rest}" + text, NoText)

    def test_names_of_nine_letters(self):
        self.refused("in abcdefghi;out;nothing", NoText)
        self.refused("in;out abcdefghi;nothing", NoText)
        self.refused("in a abcdefghi b;out;nothing", NoText)
        for part in SIGN_PARTS + ("trap {}{{rest}}", "local {}{{rest}}", "trap t{{exit {}}}"):
            self.refused(body(part.format("abcdefghi")), NoText)

    def test_kept_words_where_a_name_should_stand(self):
        self.assertEqual(len(KEPT), 17)
        for word in KEPT:
            self.refused(f"in {word};out;nothing", NoText)
            self.refused(f"in a {word};out;nothing", NoText)
            self.refused(f"in;out {word};nothing", NoText)
            for part in SIGN_PARTS + ("trap {}{{rest}}", "local {}{{rest}}", "trap t{{exit {}}}"):
                self.refused(body(part.format(word)), NoText)

    def test_marks_where_a_name_should_stand(self):
        for mark in "{};|":
            for part in SIGN_PARTS + ("trap {}{{rest}}", "local {}{{rest}}", "trap t{{exit {}}}"):
                self.refused(body(part.format(mark)), NoText)


class Bounds(Refusing):
    def test_3000_signs_and_3001(self):
        text = "in;out;nothing"
        for let in (text + " " * (3000 - len(text)), "\n" * (3000 - len(text)) + text):
            self.assertEqual(len(let), 3000)
            self.assertEqual(read(let), ([], [], ("nothing",)))
            self.refused(let + " ", NoText)
            self.refused("\n" + let, NoText)
        for size in (3001, 4000, 100000):
            self.refused(text.ljust(size), NoText)

    def test_3000_signs_of_names(self):
        text = filled(3000, "nothing")
        self.assertEqual(len(text), 3000)
        self.assertEqual(read(text), (text[3:].split(";")[0].split(), [], ("nothing",)))
        self.refused(filled(3001, "nothing"), NoText)

    def test_60_parts_and_61(self):
        let = row_of(30) + ";{rest}"
        self.assertEqual(parts(read(body(row_of(30)))[2]), 59)
        self.refused(body(let), NoText)
        for sixty, one_more in (
            ("again{" + row_of(30) + "}", "again{again{" + row_of(30) + "}}"),
            ("again{" + row_of(30).replace(";", "|") + "}", row_of(31).replace(";", "|")),
            ("again{" + row_of(30) + "}", row_of(31)),
            ("hold a{" + row_of(30) + "}", row_of(29) + ";hold a{again{rest}}"),
            ("local s{{{" + row_of(30) + "}}}", "local s{trap t{" + row_of(30) + "}}"),
        ):
            self.assertEqual(parts(read(body(sixty))[2]), 60, sixty)
            self.refused(body(one_more), NoText)

    def test_the_nothing_of_an_if_without_else_counts(self):
        sixty = row_of(28) + ";if a{again{rest}}"
        self.assertEqual(parts(read(body(sixty))[2]), 60)
        self.refused(body(row_of(28) + ";if a{again{again{rest}}}"), NoText)
        self.refused(body(row_of(28) + ";if a{again{rest}}else{again{rest}}"), NoText)
        self.assertEqual(parts(read(body(row_of(28) + ";if a{again{rest}}else{nothing}"))[2]), 60)

    def test_16_open_marks_and_17(self):
        for head in ("", "again", "if a", "hold a", "watch a", "weak a", "trap t", "local s", "if a{rest}else"):
            text = body((head + "{") * 16 + "rest" + "}" * 16)
            self.assertEqual(open_marks(text), 16)
            read(text)
            self.refused(body((head + "{") * 17 + "rest" + "}" * 17), NoText)
            self.refused(body(row_of(3) + ";" + (head + "{") * 17 + "rest" + "}" * 17 + "|rest"), NoText)

    def test_open_marks_are_counted_where_they_are_open(self):
        read(body(";".join(["{" * 16 + "rest" + "}" * 16] * 5)))
        read(body("{" * 15 + ";".join(["{rest}"] * 20) + "}" * 15))
        self.refused(body("{" * 15 + ";".join(["{rest}"] * 20 + ["{{rest}}"]) + "}" * 15), NoText)

    def test_texts_far_beyond_the_bounds(self):
        for text in (
            "{" * 3000, "{" * 100000, "}" * 3000, "{}" * 1500, "|" * 3000, ";" * 3000, "a" * 3000, "in " * 1000,
            "in;out;" + "{" * 2993, "in;out;" + "{" * 1490 + "rest" + "}" * 1490, "in;out;" + "again{" * 498,
            "in;out;" + row_of(598), "in;out;" + row_of(598).replace(";", "|"), "in;out;" + row_of(598) + ";",
            "in;out;" + ";".join(["again{rest}"] * 240), "in;out;" + "{" * 16 + row_of(590) + "}" * 16,
            "in a;out;" + "if a{rest}else{" * 198, "in a;out;" + ";".join(["if a{rest}"] * 270),
            "in a;out;" + row_of(370, "send a"), "in;out;" + row_of(100000), "in;out;" + "{rest};" * 400 + "rest",
        ):
            self.refused(text, NoText)


class Twices(Refusing):
    def test_a_name_twice(self):
        for text in (
            "in a a;out;nothing", "in;out a a;nothing", "in a;out a;nothing", "in a b a;out;nothing",
            "in a b c;out d e b;nothing", "in;out x y z y;nothing", "in abcdefgh;out abcdefgh;nothing", "in a a;out a a;nothing",
        ):
            self.refused(text, Twice)

    def test_names_that_are_alike_but_not_the_same(self):
        self.assertEqual(read("in a aa aaa;out ab ba;nothing")[:2], (["a", "aa", "aaa"], ["ab", "ba"]))

    def test_locals_and_traps_may_have_a_name_twice(self):
        for text in (
            "local a{send a}", "local c{send c}", "local s{local s{send s}}", "local s{rest};local s{rest}",
            "trap t{trap t{exit t}}", "trap t{exit t};trap t{exit t}", "trap a{exit a}", "local s{trap s{send s;exit s}}",
            "trap s{local s{send s;exit s}}",
        ):
            read(body(text))


class NoNames(Refusing):
    def test_a_sign_that_is_not_there_in_each_part(self):
        for part in SIGN_PARTS:
            read(body(part.format("a")))
            read(body(part.format("c")))
            self.refused(body(part.format("d")), NoName)
            self.refused("in;out;" + part.format("a"), NoName)

    def test_signs_of_ins_and_outs_may_be_sent_and_asked(self):
        for part in SIGN_PARTS:
            for name in "abc":
                read(body(part.format(name)))

    def test_a_local_inside_and_outside_its_braces(self):
        for part in SIGN_PARTS:
            use = part.format("s")
            read(body("local s{" + use + "}"))
            read(body("local s{again{trap t{local q{" + use + "}}}}"))
            read(body("local s{rest;" + use + "|" + use + "}"))
            self.refused(body("local s{rest};" + use), NoName)
            self.refused(body(use + ";local s{rest}"), NoName)
            self.refused(body("local s{rest}|" + use), NoName)
            self.refused(body("local q{local s{send s};" + use + "}"), NoName)
            self.refused(body("trap s{" + use + "}"), NoName)

    def test_the_inner_of_two_locals_ends_ahead_of_the_outer(self):
        read(body("local s{local s{send s};send s}"))
        self.refused(body("local s{local s{send s};send s};send s"), NoName)

    def test_an_ins_name_stays_behind_a_local_of_it(self):
        read(body("local a{send a};send a"))

    def test_the_parts_of_an_if_and_of_braces(self):
        self.refused(body("if a{send d}"), NoName)
        self.refused(body("if a{rest}else{send d}"), NoName)
        for head in ("again", "hold a", "watch a", "weak a", "trap t", "local s", ""):
            self.refused(body(head + "{send d}"), NoName)
            self.refused(body(head + "{exit d}"), NoName)

    def test_a_trap_inside_and_outside_its_braces(self):
        read(body("trap t{exit t}"))
        read(body("trap t{again{local s{weak a{trap u{rest;exit t|exit u}}}}}"))
        for text in (
            "exit t", "trap t{rest};exit t", "exit t;trap t{rest}", "trap t{rest}|exit t", "trap u{exit t}",
            "trap u{trap t{exit t};exit t}", "trap t{trap t{exit t};exit t};exit t", "weak a{exit a}",
        ):
            self.refused(body(text), NoName)
        read(body("trap t{trap t{exit t};exit t}"))

    def test_signs_and_traps_have_nothing_to_do_with_one_another(self):
        for text in ("exit a", "exit c", "local s{exit s}", "trap t{send t}", "trap a{local t{exit t}}"):
            self.refused(body(text), NoName)
        read(body("trap a{send a;exit a}"))


class InOrder(Refusing):
    def test_no_text_ahead_of_twice(self):
        for text in ("in a a;out;", "in a a;out;rest;", "in a a;out;nothing}", "in a;out a;send A", "in a a;out;" + row_of(31)):
            self.refused(text, NoText)
        self.refused("in a a;out;" + "{" * 17 + "rest" + "}" * 17, NoText)
        self.refused("in a a;out;nothing".ljust(3001), NoText)

    def test_no_text_ahead_of_no_name(self):
        for text in ("in;out;send a;", "in;out;exit t}", "in;out;send a;" + row_of(30), "in;out;send a;if a", "in;out;send a;rest x"):
            self.refused(text, NoText)
        self.refused("in;out;" + "{" * 17 + "send a" + "}" * 17, NoText)
        self.refused("in;out;send a".ljust(3001), NoText)

    def test_twice_ahead_of_no_name(self):
        self.refused("in a a;out;send b", Twice)
        self.refused("in a;out a;exit t", Twice)


if __name__ == "__main__":
    unittest.main()
