"""Showing: a named program becomes the shortest text that tells it.

Braces, blanks and else stand only where they must, so the text is within every bound that some text of it is within.
"""

from signalwise.tree import every_part, inner_parts


def parts(block):
    return len(every_part(block))


def shown(named):
    ins = " ".join(["in"] + named[0])
    outs = " ".join(["out"] + named[1])
    block = block_text(named[2])
    return f"{ins};{outs};{block}"


def block_text(block):
    if block[0] == "beside":
        return block_text(block[1]) + "|" + row_text(block[2])
    return row_text(block)


def row_text(row):
    if row[0] == "then":
        return row_text(row[1]) + ";" + part_text(row[2])
    return part_text(row)


def braced_text(block):
    return "{" + block_text(block) + "}"


def part_text(part):
    if part[0] in ("then", "beside"):
        return braced_text(part)
    if part[0] == "if":
        return if_text(part)
    head = " ".join([piece for piece in part if isinstance(piece, str)])
    return head + "".join([braced_text(inner) for inner in inner_parts(part)])


def if_text(part):
    text = "if " + part[1] + braced_text(part[2])
    if part[3] == ("nothing",):
        return text
    return text + "else" + braced_text(part[3])
