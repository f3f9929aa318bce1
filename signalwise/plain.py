"""Plain programs: names become numbers, and every named part one of the few plain ones."""

NOTHING = ("nothing",)


# Each number is handed out once, so the order of asking is the order of numbering.
class Numbers:
    def __init__(self, signs):
        self.signs = signs
        self.rests = 0

    def new_sign(self):
        self.signs = self.signs + 1
        return self.signs - 1

    def new_rest(self):
        self.rests = self.rests + 1
        return self.rests - 1


def plain(named):
    ins = named[0]
    outs = named[1]
    numbers = Numbers(len(ins) + len(outs))
    signs = {}
    for number, name in enumerate(ins + outs):
        signs[name] = number
    body = plain_part(named[2], signs, [], numbers)
    return (len(ins), len(outs), numbers.signs, body)


# The traps round a part stand in their list from the nearest on, so a place in it is the number of an exit.
def plain_part(part, signs, traps, numbers):
    word = part[0]
    if word == "then" or word == "beside":
        left = plain_part(part[1], signs, traps, numbers)
        return (word, left, plain_part(part[2], signs, traps, numbers))
    if word == "if":
        chosen = plain_part(part[2], signs, traps, numbers)
        return ("if", signs[part[1]], chosen, plain_part(part[3], signs, traps, numbers))
    if word == "again":
        repeated = plain_part(part[1], signs, traps, numbers)
        return ("again", numbers.new_rest(), repeated)
    if word == "hold" or word == "watch":
        return (word, signs[part[1]], plain_part(part[2], signs, traps, numbers))
    if word == "weak":
        return plain_weak(part, signs, traps, numbers)
    if word == "trap":
        return ("trap", plain_part(part[2], signs, [part[1]] + traps, numbers))
    if word == "local":
        inner_signs = dict(signs)
        inner_signs[part[1]] = numbers.new_sign()
        return plain_part(part[2], inner_signs, traps, numbers)
    return plain_leaf(part, signs, traps, numbers)


# The trap of a weak has no name, so that no exit within can mean it.
def plain_weak(part, signs, traps, numbers):
    inner = plain_part(part[2], signs, [None] + traps, numbers)
    waiting = awaited(signs[part[1]], numbers)
    return ("trap", ("beside", ("then", inner, ("exit", 0)), ("then", waiting, ("exit", 0))))


def awaited(sign, numbers):
    return ("watch", sign, ("again", numbers.new_rest(), NOTHING))


def plain_leaf(part, signs, traps, numbers):
    word = part[0]
    if word == "rest":
        return ("rest", numbers.new_rest())
    if word == "halt":
        return ("again", numbers.new_rest(), NOTHING)
    if word == "send":
        return ("send", signs[part[1]])
    if word == "keep":
        return ("again", numbers.new_rest(), ("send", signs[part[1]]))
    if word == "await":
        return awaited(signs[part[1]], numbers)
    if word == "exit":
        return ("exit", traps.index(part[1]))
    return NOTHING
