"""What remains of a part in a state: a part again, and to begin that one is to go on with the first.

So all else only has to tell how parts are begun. One kind of part stands in what remains alone: ("stay", rests).
"""

NOTHING = ("nothing",)
PAIRS = ("then", "if", "beside")
ROUND = ("again", "hold", "watch", "trap")


def part_to_begin(part, state):
    if state is None:
        return part
    return remaining(part, state)[1]


# None where the body is not run: the program has ended.
def body_to_begin(program, state):
    if state is None:
        return program[3]
    found = remaining(program[3], state)
    return found[1] if found[0] else None


# Told are the part's rests that are in the state, and what is to be begun where the part is run. Both come out of one
# walk, since to look for the rests of each part anew would walk the inner ones again and again.
def remaining(part, state):
    if part[0] in PAIRS:
        first = remaining(part[-2], state)
        second = remaining(part[-1], state)
        return (first[0] + second[0], left_of_pair(part, first, second))
    if part[0] in ROUND:
        inner = remaining(part[-1], state)
        if part[0] == "again" and part[1] in state:
            return ([part[1]] + inner[0], part)
        return (inner[0], left_of_round(part, inner))
    if part[0] == "rest" and part[1] in state:
        return ([part[1]], NOTHING)
    return ([], part)


def left_of_pair(part, first, second):
    if part[0] == "then":
        return second[1] if second[0] else ("then", first[1], part[2])
    if part[0] == "beside" and first[0] and second[0]:
        return ("beside", first[1], second[1])
    if first[0]:
        return first[1]
    return second[1] if second[0] else part


# What a hold or a watch does where its sign is there is the one way of an if, so a sign not known needs no more rules.
def left_of_round(part, inner):
    if not inner[0]:
        return part
    if part[0] == "again":
        return ("again", part[1], inner[1])
    if part[0] == "trap":
        return ("trap", inner[1])
    skipped = ("stay", tuple(inner[0])) if part[0] == "hold" else NOTHING
    return ("if", part[1], skipped, inner[1])
