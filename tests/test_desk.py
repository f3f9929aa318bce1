"""Point [23]: the desk, row by row."""

import unittest

from samples import Sampler, filled, open_marks, row_of
from signalwise.desk import Desk
from signalwise.errors import NoName, NoProgram, NoRow, NoText, TooMany, Twice, Unsettled, WiseError
from signalwise.looking import looked
from signalwise.plain import plain
from signalwise.reading import read
from signalwise.runners import Walker
from signalwise.settling import settled
from signalwise.showing import parts, shown

AWAITS = "in go stop;out done;await go;send done;await stop"
WAITS = "in a b;out c d;rest;if a{if c{send c}};send d;local s{if b{if s{send s}}};rest"
MANY = "in a;out;again{rest;rest;rest;rest}|again{rest;rest;rest;rest;rest;rest;rest}"
NO_ROWS = (
    "", " ", "\n", "load", "Load in;out;rest", "LOAD in;out;rest", "loadin;out;rest", "load\nin;out;rest",
    " load in;out;rest", "load\tin;out;rest", "loads in;out;rest", "reload in;out;rest", "in;out;rest",
    "tick ", " tick", "tick  a", "tick a ", " tick a", "tick a  b", "Tick", "TICK a", "tick A", "tick aB", "tick a1",
    "tick a,b", "tick a\n", "tick\na", "tick\n", "tick\ta", "tick a\tb", "tick a;b", "tick |", "ticks", "ticka",
    "tick abcdefghi", "tick a abcdefghij", "tick abcdefghi a", "tock", "tick 1", "tick a_b", "tick -", "tick a\nb",
    "where ", " where", "where a", "Where", "WHERE", "wher", "wheres", "where\n", "where  ",
    "begin ", " begin", "begin a", "Begin", "begins", "begin\n", "beg",
    "judge ", " judge", "judge a", "Judge", "judges", "judge\n", "judg",
    "ok", "there", "let", "rests", "end", "quit", "where;", "where begin", "begin judge", "tick;", "load;",
)
NO_TEXTS = (None, 0, 1, True, ["tick"], ("where",), {"tick": 1}, b"where", b"tick", ["load in;out;rest"], 1.5, object())


def loaded(text, *rows):
    desk = Desk()
    desk.say("load " + text)
    for row in rows:
        desk.say(row)
    return desk


class Asking(unittest.TestCase):
    def says(self, desk, *pairs):
        for row, answer in pairs:
            told = desk.say(row)
            self.assertEqual(told, answer, row)
            self.assertIs(type(told), str)

    def refuses(self, desk, name, *rows):
        for row in rows:
            for error in (name, WiseError, ValueError):
                with self.assertRaises(error, msg=repr(row)) as taken:
                    desk.say(row)
                self.assertIs(type(taken.exception), name, row)


class Rows(Asking):
    def test_a_whole_run(self):
        self.says(Desk(), ("load " + AWAITS, "loaded"), ("where", "begin"), ("tick go", "there"), ("where", "rests 1"),
                  ("tick", "there"), ("where", "rests 1"), ("tick go", "there done"), ("where", "rests 1"),
                  ("judge", "let 4"), ("where", "rests 1"), ("tick stop go", "there"), ("where", "ended"),
                  ("tick go", "there"), ("tick", "there"), ("where", "ended"), ("begin", "ok"), ("where", "begin"),
                  ("tick", "there"), ("tick go", "there done"))

    def test_ins_in_any_order_twice_and_none(self):
        desk = loaded("in a b c;out x y z;again{if c{send x}|if a{send z}|if b{send y}}")
        self.says(desk, ("tick c a", "there x z"), ("tick a c", "there x z"), ("tick a a a", "there z"),
                  ("tick", "there"), ("tick b c b", "there x y"), ("tick c b a", "there x y z"), ("tick b", "there y"))

    def test_outs_in_the_outs_order_and_no_other_signs(self):
        desk = loaded("in b;out z y x;local s{again{send x;send s;send y;if b{send z}}}")
        self.says(desk, ("tick", "there y x"), ("tick b", "there z y x"), ("tick", "there y x"))
        self.says(loaded("in a;out b;send a;if a{send b}"), ("tick", "there b"))
        self.says(loaded("in a;out b;local b{send b};if b{send a}"), ("tick a", "there"), ("where", "ended"))

    def test_words_of_one_and_of_eight_letters(self):
        desk = loaded("in a abcdefgh;out zyxwvuts z;again{if abcdefgh{send zyxwvuts};if a{send z}}")
        self.says(desk, ("tick abcdefgh", "there zyxwvuts"), ("tick abcdefgh a", "there zyxwvuts z"),
                  ("tick a", "there z"))

    def test_names_that_are_words_of_rows(self):
        desk = loaded("in tick load where begin judge;out there ok;again{if tick{send ok};if load{send there}}")
        self.says(desk, ("tick tick", "there ok"), ("tick load tick", "there there ok"), ("tick where judge", "there"),
                  ("where", "rests 1"), ("begin", "ok"), ("tick begin", "there"))

    def test_not_settled(self):
        desk = loaded(WAITS)
        self.says(desk, ("tick a b", "there"), ("where", "rests 1"), ("tick a b", "waits 3"), ("where", "rests 1"),
                  ("tick b", "waits 1"), ("where", "rests 1"), ("tick a", "waits 2"), ("tick b a b", "waits 3"),
                  ("where", "rests 1"), ("tick", "there d"), ("where", "rests 1"), ("tick a b", "there"),
                  ("where", "ended"), ("tick a", "there"))

    def test_not_settled_in_the_first_instant(self):
        desk = loaded("in a;out b;if a{nothing}else{if b{send b}};rest")
        self.says(desk, ("tick", "waits 1"), ("where", "begin"), ("tick", "waits 1"), ("tick a", "there"),
                  ("where", "rests 1"))

    def test_where_in_each_answer(self):
        desk = loaded("in;out;rest|rest;rest|rest;rest;rest")
        self.says(desk, ("where", "begin"), ("tick", "there"), ("where", "rests 3"), ("tick", "there"),
                  ("where", "rests 2"), ("tick", "there"), ("where", "rests 1"), ("tick", "there"), ("where", "ended"))
        self.says(loaded("in;out;" + "|".join(["rest"] * 12)), ("tick", "there"), ("where", "rests 12"))

    def test_begin(self):
        desk = loaded("in;out b;send b;rest")
        self.says(desk, ("begin", "ok"), ("where", "begin"), ("tick", "there b"), ("begin", "ok"), ("where", "begin"),
                  ("tick", "there b"), ("tick", "there"), ("where", "ended"), ("begin", "ok"), ("tick", "there b"))


class Judging(Asking):
    def test_let(self):
        self.says(loaded("in;out;nothing"), ("judge", "let 2"))
        self.says(loaded("in a b;out c;await a;await b"), ("judge", "let 4"))
        rests = ";".join(["rest"] * 12)
        self.says(loaded("in;out;again{rest;rest}|again{" + rests + "}"), ("judge", "let 40"))

    def test_refused(self):
        self.says(loaded("in;out b;if b{send b}"), ("judge", "refused 1 1"))
        self.says(loaded("in a;out b c;await a;rest;if b{send c};if c{send b}"), ("judge", "refused 3 2"))
        self.says(loaded(WAITS), ("judge", "refused 2 2"))

    def test_refused_behind_many_instants(self):
        for count in (9, 10, 15):
            desk = loaded("in;out b c;" + row_of(count) + ";if b{send b}|nothing")
            self.says(desk, ("judge", f"refused {count + 1} 1"))

    def test_too_many(self):
        desk = loaded(MANY)
        self.refuses(desk, TooMany, "judge")
        self.says(desk, ("where", "begin"), ("tick", "there"), ("where", "rests 2"))
        self.refuses(desk, TooMany, "judge")
        self.says(desk, ("where", "rests 2"), ("tick a", "there"))

    def test_the_state_stays_and_it_looks_from_the_first_instant_on(self):
        desk = loaded("in a;out b;rest;rest;if a{if b{send b}};rest")
        for rows in ((), ("tick",), ("tick a",), ("tick",)):
            for row in rows:
                desk.say(row)
            where = desk.say("where")
            self.says(desk, ("judge", "refused 3 1"), ("judge", "refused 3 1"), ("where", where))
        self.says(desk, ("where", "rests 1"), ("tick", "there"), ("judge", "refused 3 1"), ("where", "ended"))


class Loading(Asking):
    def test_a_second_program(self):
        desk = loaded(AWAITS, "tick", "tick go")
        self.says(desk, ("load in x;out y;await x;send y", "loaded"), ("where", "begin"), ("tick x", "there"),
                  ("where", "rests 1"), ("tick x", "there y"), ("where", "ended"), ("judge", "let 3"))
        self.refuses(desk, NoName, "tick go")
        self.says(desk, ("load in x;out y;await x;send y", "loaded"), ("where", "begin"))

    def test_the_text_is_all_behind_the_blank(self):
        for text in (" in;out;rest", "in;out;rest ", "\nin\n;out;\n\nrest\n", "  in ; out ; rest", "in;out;{rest}"):
            desk = Desk()
            self.says(desk, ("load " + text, "loaded"), ("tick", "there"), ("where", "rests 1"))

    def test_refusals_of_the_text(self):
        for desk in (Desk(), loaded(AWAITS)):
            self.refuses(desk, NoText, "load ", "load  ", "load x", "load in;out;", "load in;out;Rest",
                         "load in;out;rest;", "load load in;out;rest", "load in a;out b;send",
                         "load in rest;out;rest", "load in;out;rest\t",
                         "load in;out;" + row_of(31), "load " + filled(3001, "rest"),
                         "load in;out;" + "{" * 17 + "rest" + "}" * 17)
            self.refuses(desk, Twice, "load in a a;out;rest", "load in a;out a;send b", "load in;out b b;send b")
            self.refuses(desk, NoName, "load in a;out b;send c", "load in;out;exit t", "load in;out;trap t{send t}")
            self.says(desk, ("load " + filled(3000, "rest"), "loaded"), ("load in;out;" + row_of(30), "loaded"),
                      ("load in;out;" + "{" * 16 + "rest" + "}" * 16, "loaded"))

    def test_a_refused_text_changes_nothing(self):
        desk = loaded(AWAITS, "tick", "tick go")
        for text in ("in go;out;", "in go go;out;rest", "in go;out x;send y"):
            self.assertRaises(WiseError, desk.say, "load " + text)
            self.says(desk, ("where", "rests 1"), ("judge", "let 4"), ("tick go", "there"), ("where", "rests 1"))
        self.says(desk, ("tick stop", "there"), ("where", "ended"), ("begin", "ok"), ("tick", "there"),
                  ("tick go", "there done"))
        desk = Desk()
        self.assertRaises(NoText, desk.say, "load in;out;")
        self.refuses(desk, NoProgram, "where", "tick", "judge", "begin")

    def test_two_desks(self):
        first, second = loaded(AWAITS), loaded(AWAITS)
        first.say("tick")
        self.says(second, ("where", "begin"))
        self.says(first, ("tick go", "there done"))
        self.says(second, ("tick go", "there"))
        second.say("load in;out;nothing")
        self.says(first, ("where", "rests 1"), ("tick stop", "there"), ("where", "ended"))


class Refusals(Asking):
    def test_no_rows(self):
        for desk in (Desk(), loaded(AWAITS), loaded("in a b;out c;rest", "tick")):
            self.refuses(desk, NoRow, *NO_ROWS)
            self.refuses(desk, NoRow, *NO_TEXTS)

    def test_no_program(self):
        desk = Desk()
        self.refuses(desk, NoProgram, "tick", "tick a", "tick a b", "tick in", "where", "begin", "judge")
        self.says(desk, ("load " + AWAITS, "loaded"), ("where", "begin"))

    def test_no_names(self):
        desk = loaded(AWAITS)
        self.refuses(desk, NoName, "tick x", "tick done", "tick go x", "tick x go", "tick in", "tick rest", "tick tick",
                     "tick go stop goo", "tick abcdefgh")
        self.refuses(loaded("in;out b;local s{send s}"), NoName, "tick s", "tick b", "tick a")

    def test_the_order_of_refusals(self):
        """No row ahead of no program ahead of no name."""
        desk = Desk()
        self.refuses(desk, NoRow, "tick x ", "tick X", "tick abcdefghi", "where x")
        self.refuses(desk, NoProgram, "tick x", "tick go")
        desk.say("load " + AWAITS)
        self.refuses(desk, NoRow, "tick x ", "tick x Y", "tick nope abcdefghi", "tick go  nope")
        self.refuses(desk, NoName, "tick nope", "tick go nope")
        self.refuses(desk, NoText, "load in a a;out;")
        self.refuses(desk, Twice, "load in a a;out;send b")

    def test_what_is_refused_changes_nothing(self):
        desk = loaded(WAITS, "tick")
        for row in NO_ROWS + NO_TEXTS + ("tick nope", "tick a nope", "tick c", "load in;out;send x", "load x"):
            self.assertRaises(WiseError, desk.say, row)
            self.assertEqual(desk.say("where"), "rests 1")
        self.says(desk, ("tick a", "waits 2"), ("tick", "there d"))


class Many(Asking):
    def test_what_the_desk_tells_is_what_the_runners_and_looking_tell(self):
        sampler = Sampler(231)
        seen = {}
        for count in range(250):
            named = sampler.named(count % 40 + 1)
            text = shown(named)
            if parts(named[2]) > 60 or open_marks(text) > 16:
                continue
            program = plain(read(text))
            desk = loaded(text)
            walker = Walker(program)
            for _ in range(5):
                coming = sampler.some(range(program[0]))
                sampler.chance.shuffle(coming)
                row = " ".join(["tick"] + [named[0][sign] for sign in coming])
                answer = self.wanted(walker, named, program, coming)
                self.says(desk, (row, answer), ("where", where(walker.state())))
                seen[answer.split()[0]] = seen.get(answer.split()[0], 0) + 1
            self.judged(desk, program)
            self.says(desk, ("where", where(walker.state())))
        self.assertGreater(min(seen["there"], seen["waits"]), 50, seen)

    def wanted(self, walker, named, program, coming):
        waiting = settled(program, walker.state(), sorted(coming)).count(None)
        try:
            there = walker.tick(coming)
        except Unsettled:
            return f"waits {waiting}"
        return " ".join(["there"] + [name for name in named[1] if len(named[0]) + named[1].index(name) in there])

    def judged(self, desk, program):
        try:
            told = looked(program)
        except TooMany:
            self.refuses(desk, TooMany, "judge")
            return
        counts = [str(len(one)) for one in told[1:]]
        self.says(desk, ("judge", " ".join([told[0]] + counts)))


def where(state):
    if state is None:
        return "begin"
    return f"rests {len(state)}" if state else "ended"


if __name__ == "__main__":
    unittest.main()
