"""A second way to the answers of the points from [11] on, straight along their words and without care for time."""

import itertools

from signalwise.rests import rests_of


def rests_in(part, state):
    return [rest for rest in rests_of(part) if state is not None and rest in state]


def ran(part, state, there):
    """(code, signs, rests), the last two as sets; to begin a part whatever rests is to run it in the state None."""
    word = part[0]
    goes_on = bool(rests_in(part, state))
    if word == "nothing":
        return 0, set(), set()
    if word == "send":
        return 0, {part[1]}, set()
    if word == "exit":
        return 2 + part[1], set(), set()
    if word == "rest":
        return (0, set(), set()) if goes_on else (1, set(), {part[1]})
    if word == "then":
        if rests_in(part[2], state):
            return ran(part[2], state, there)
        code, sent, left = ran(part[1], state, there)
        if code != 0:
            return code, sent, left
        code, more, left = ran(part[2], None, there)
        return code, sent | more, left
    if word == "if":
        if goes_on:
            return ran(part[2] if rests_in(part[2], state) else part[3], state, there)
        return ran(part[2] if part[1] in there else part[3], None, there)
    if word == "beside":
        sides = [ran(side, state, there) if rests_in(side, state) or not goes_on else (0, set(), set())
                 for side in part[1:]]
        code = max(side[0] for side in sides)
        return code, sides[0][1] | sides[1][1], (sides[0][2] | sides[1][2]) if code == 1 else set()
    if word == "again":
        own = state is not None and part[1] in state
        code, sent, left = ran(part[2], None if own else state, there)
        return (1, sent, {part[1]}) if code == 0 else (code, sent, left)
    if word == "hold" and goes_on and part[1] in there:
        return 1, set(), set(rests_in(part[2], state))
    if word == "watch" and goes_on and part[1] in there:
        return 0, set(), set()
    if word in ("hold", "watch"):
        return ran(part[2], state, there)
    assert word == "trap"
    code, sent, left = ran(part[1], state, there)
    return (0 if code == 2 else code - 1 if code > 2 else code), sent, left


def ran_rising(part, state, there):
    code, sent, left = ran(part, state, there)
    return code, sorted(sent), sorted(left)


def instant(program, state, there):
    if state == []:
        return 0, [], []
    return ran_rising(program[3], state, there)


def fits(program, state, coming, there):
    return set(there) == set(coming) | set(instant(program, state, there)[1])


def fitting(program, state, coming):
    """All rising lists of signs that fit."""
    signs = range(program[2])
    lists = [list(some) for size in range(program[2] + 1) for some in itertools.combinations(signs, size)]
    return [there for there in lists if fits(program, state, coming, there)]


def walked(part, state, sure, known):
    """(codes, surely, must, can), all but surely as sets."""
    word = part[0]
    goes_on = bool(rests_in(part, state))
    if word == "send":
        return {0}, sure, {part[1]} if sure else set(), {part[1]}
    if word in ("nothing", "exit", "rest"):
        return {ran(part, state, [])[0]}, sure, set(), set()
    if word == "then":
        if rests_in(part[2], state):
            return walked(part[2], state, sure, known)
        codes, surely, must, can = walked(part[1], state, sure, known)
        if 0 not in codes:
            return codes, surely, must, can
        behind = walked(part[2], None, surely and codes == {0}, known)
        ends = (surely and codes != {0}) or behind[1]
        return (codes - {0}) | behind[0], ends, must | behind[2], can | behind[3]
    if word == "if":
        if goes_on:
            return walked(part[2] if rests_in(part[2], state) else part[3], state, sure, known)
        if known[part[1]] is not None:
            return walked(part[2] if known[part[1]] else part[3], None, sure, known)
        ways = [walked(way, None, False, known) for way in part[2:]]
        return ways[0][0] | ways[1][0], False, set(), ways[0][3] | ways[1][3]
    if word == "beside":
        one, other = [walked(side, state, sure, known) if rests_in(side, state) or not goes_on
                      else ({0}, sure, set(), set()) for side in part[1:]]
        codes = {max(pair) for pair in itertools.product(one[0], other[0])}
        return codes, one[1] and other[1], one[2] | other[2], one[3] | other[3]
    if word == "again":
        own = state is not None and part[1] in state
        codes, surely, must, can = walked(part[2], None if own else state, sure, known)
        return {code or 1 for code in codes}, surely, must, can
    if word in ("hold", "watch") and goes_on:
        if known[part[1]] is None:
            codes, _, must, can = walked(part[2], state, False, known)
            return codes | {1 if word == "hold" else 0}, False, must, can
        if known[part[1]]:
            return {1 if word == "hold" else 0}, sure, set(), set()
    if word in ("hold", "watch"):
        return walked(part[2], state, sure, known)
    assert word == "trap"
    codes, surely, must, can = walked(part[1], state, sure, known)
    return {0 if code == 2 else code - 1 if code > 2 else code for code in codes}, surely, must, can


def walked_rising(part, state, sure, known):
    codes, surely, must, can = walked(part, state, sure, known)
    return sorted(codes), surely, sorted(must), sorted(can)


def rounds(program, state, coming):
    """The rounds that change something, and what is known in the end."""
    known = [None] * program[2]
    for sign in coming:
        known[sign] = True
    told = []
    while True:
        must, can = set(), set()
        if state is None or rests_in(program[3], state):
            must, can = walked(program[3], state, True, known)[2:]
        changes = [(sign, True) for sign in must if known[sign] is None]
        changes += [(sign, False) for sign in range(program[2]) if known[sign] is None and sign not in can]
        if not changes:
            return told, known
        told.append(sorted(changes))
        for sign, value in changes:
            known[sign] = value


def value_of(gate, known, state, coming):
    """What is told of a gate by those that are known, or None."""
    word, numbers = gate
    if word == "start":
        return state is None
    if word == "memory":
        return state is not None and numbers[0] in state
    if word == "given":
        return numbers[0] in coming
    told = [known[number] for number in numbers]
    if word == "not":
        return None if told[0] is None else not told[0]
    ruling = word == "some"
    if ruling in told:
        return ruling
    return None if None in told else not ruling


def values(net, state, coming):
    known = [None] * len(net[0])
    while True:
        ahead = list(known)
        for number, gate in enumerate(net[0]):
            known[number] = value_of(gate, known, state, coming)
        if known == ahead:
            return known


def looked(program):
    """What looking through tells; ("too many",) where it is refused."""
    ins = range(program[0])
    lists = [[sign for sign in ins if number >> sign & 1] for number in range(1 << program[0])]
    found = [(None, [])]
    for state, way in found:
        for coming in lists:
            known = rounds(program, state, coming)[1]
            if None in known:
                return "refused", way + [coming], [sign for sign, value in enumerate(known) if value is None]
            behind = instant(program, state, [sign for sign, value in enumerate(known) if value])[2]
            if all(behind != other for other, _ in found):
                found.append((behind, way + [coming]))
            if len(found) == 41:
                return ("too many",)
    return "let", [state for state, _ in found]
