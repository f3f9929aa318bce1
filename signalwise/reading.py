"""Reading: a text becomes a named program, or is refused."""

from signalwise.errors import NoText
from signalwise.naming import check_once, check_there
from signalwise.showing import parts
from signalwise.words import Words, most_open, words_of

MOST_SIGNS = 3000
MOST_PARTS = 60
MOST_OPEN = 16
BARE = ("nothing", "rest", "halt")
NAMED = ("send", "keep", "await", "exit")
NAMED_ROUND = ("hold", "watch", "weak", "trap", "local")


def read(text):
    if not isinstance(text, str):
        raise NoText("no text at all")
    if len(text) > MOST_SIGNS:
        raise NoText("a text of too many signs")
    named = read_program(text)
    if parts(named[2]) > MOST_PARTS:
        raise NoText("a text of too many parts")
    check_once(named[0] + named[1])
    check_there(named[2], named[0] + named[1], [])
    return named


# Open marks are counted ahead of all else: they alone tell how deep the reading goes.
def read_program(text):
    found = words_of(text)
    if most_open(found) > MOST_OPEN:
        raise NoText("a text of too many open marks")
    words = Words(found)
    words.expect("in")
    ins = words.take_names()
    words.expect(";")
    words.expect("out")
    outs = words.take_names()
    words.expect(";")
    block = read_block(words)
    words.expect_end()
    return (ins, outs, block)


def read_block(words):
    block = read_row(words)
    while words.peek() == "|":
        words.expect("|")
        block = ("beside", block, read_row(words))
    return block


def read_row(words):
    row = read_part(words)
    while words.peek() == ";":
        words.expect(";")
        row = ("then", row, read_part(words))
    return row


def read_braced(words):
    words.expect("{")
    block = read_block(words)
    words.expect("}")
    return block


def read_part(words):
    if words.peek() == "{":
        return read_braced(words)
    word = words.take()
    if word in BARE:
        return (word,)
    if word in NAMED:
        return (word, words.take_name())
    if word in NAMED_ROUND:
        name = words.take_name()
        return (word, name, read_braced(words))
    if word == "again":
        return ("again", read_braced(words))
    if word == "if":
        return read_if(words)
    raise NoText(f"no part begins so: {word!r}")


def read_if(words):
    name = words.take_name()
    chosen = read_braced(words)
    if words.peek() != "else":
        return ("if", name, chosen, ("nothing",))
    words.expect("else")
    return ("if", name, chosen, read_braced(words))
