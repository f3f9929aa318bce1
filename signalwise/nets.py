"""Nets: a program becomes gates that settle just its signs in every instant, and tell its end and its next state.

What a gate of a part is worth is what walking tells: of its running True is surely, None perhaps, False not at all; of
a code True is that it surely ends so, None that it can, False that it cannot.
"""

from signalwise.codes import ENDED, RESTS, code_of_again, code_of_trap, leaf_code
from signalwise.rests import rests_of
from signalwise.tree import inner_parts
from signalwise.wiring import Wiring


# Signs alone close rings: all else hangs on what is further out or ahead in the text, and nothing that runs or ends
# hangs on what is kept, stays or is left.
def net_of(program):
    wiring = Wiring(program[2])
    body = wire_part(wiring, program[3])
    wiring.fill(body.runs, "some", [wiring.gate("start", []), body.rests])
    wiring.fill(body.kept, "all", [])
    wiring.fill(body.stays, "some", [])
    for sign, senders in enumerate(wiring.senders):
        wiring.fill(wiring.signs[sign], "some", [wiring.gate("given", [sign])] + senders)
    ends = (code_gate(wiring, body, ENDED), code_gate(wiring, body, RESTS))
    nexts = [wiring.leavers[rest] for rest in rests_of(program[3])]
    return (wiring.gates, wiring.signs, ends, nexts)


def wire_part(wiring, part):
    whole = wiring.new_part()
    inner = []
    for piece in inner_parts(part):
        inner.append(wire_part(wiring, piece))
    if len(inner) == 2:
        wire_pair(wiring, part, whole, inner[0], inner[1])
    elif len(inner) == 1:
        wire_round(wiring, part, whole, inner[0])
    else:
        wire_leaf(wiring, part, whole)
    return whole


def wire_leaf(wiring, part, whole):
    if part[0] == "rest":
        wire_rest(wiring, part[1], whole)
        return
    if part[0] == "send":
        wiring.senders[part[1]].append(whole.runs)
    whole.rests = wiring.some_of([])
    whole.codes = {leaf_code(part): whole.runs}


def wire_rest(wiring, rest, whole):
    whole.rests = wiring.gate("memory", [rest])
    begun = wiring.every_of([whole.runs, wiring.opposite(whole.rests)])
    whole.codes = {ENDED: wiring.every_of([whole.runs, whole.rests]), RESTS: begun}
    wire_leaving(wiring, rest, whole, whole.rests, begun)


# A rest is left where its part comes to it, and where the part rested there and a hold stays.
def wire_leaving(wiring, rest, whole, memory, comes):
    coming = wiring.every_of([comes, whole.kept])
    staying = wiring.every_of([memory, whole.stays])
    wiring.leavers[rest] = wiring.some_of([coming, staying])


def wire_pair(wiring, part, whole, first, second):
    whole.rests = wiring.some_of([first.rests, second.rests])
    kept = [whole.kept]
    if part[0] == "then":
        wire_then(wiring, whole, first, second)
    elif part[0] == "if":
        wire_if(wiring, wiring.signs[part[1]], whole, first, second)
    else:
        wire_beside(wiring, whole, first, second)
        kept.append(code_gate(wiring, whole, RESTS))
    for inner in (first, second):
        wiring.fill(inner.kept, "all", kept)
        wiring.fill(inner.stays, "some", [whole.stays])


def wire_then(wiring, whole, first, second):
    going_on = wiring.every_of([whole.runs, second.rests])
    wiring.fill(first.runs, "all", [whole.runs, wiring.opposite(second.rests)])
    wiring.fill(second.runs, "some", [going_on, code_gate(wiring, first, ENDED)])
    going_past = [pair for pair in first.codes.items() if pair[0] != ENDED]
    whole.codes = wiring.joined(going_past + list(second.codes.items()))


def wire_if(wiring, sign, whole, first, second):
    begun = wiring.every_of([whole.runs, wiring.opposite(whole.rests)])
    for inner, asked in ((first, sign), (second, wiring.opposite(sign))):
        going_on = wiring.every_of([whole.runs, inner.rests])
        wiring.fill(inner.runs, "some", [going_on, wiring.every_of([begun, asked])])
    whole.codes = wiring.joined(list(first.codes.items()) + list(second.codes.items()))


# A side that doesn't rest, the other being gone on with, counts as ended.
def wire_beside(wiring, whole, first, second):
    sides = []
    for inner, other in ((first, second), (second, first)):
        idle = wiring.every_of([other.rests, wiring.opposite(inner.rests)])
        wiring.fill(inner.runs, "all", [whole.runs, wiring.opposite(idle)])
        ended = (ENDED, wiring.every_of([whole.runs, idle]))
        sides.append(wiring.joined(list(inner.codes.items()) + [ended]))
    whole.codes = greater_codes(wiring, sides)


# The greater code of two is one that either has, where neither has a greater one.
def greater_codes(wiring, sides):
    codes = {}
    for code in sorted(set(list(sides[0]) + list(sides[1]))):
        here = [side[code] for side in sides if code in side]
        needed = [wiring.some_of(here)]
        for side in sides:
            needed.append(wiring.some_of([side[least] for least in side if least <= code]))
        codes[code] = wiring.every_of(needed)
    return codes


def wire_round(wiring, part, whole, inner):
    wiring.fill(inner.kept, "some", [whole.kept])
    whole.rests = inner.rests
    if part[0] == "hold" or part[0] == "watch":
        wire_skipping(wiring, part, whole, inner)
        return
    wiring.fill(inner.runs, "some", [whole.runs])
    wiring.fill(inner.stays, "some", [whole.stays])
    if part[0] == "trap":
        whole.codes = wiring.joined([(code_of_trap(pair[0]), pair[1]) for pair in inner.codes.items()])
    else:
        wire_again(wiring, part[1], whole, inner)


def wire_again(wiring, rest, whole, inner):
    memory = wiring.gate("memory", [rest])
    whole.rests = wiring.some_of([memory, inner.rests])
    whole.codes = wiring.joined([(code_of_again(pair[0]), pair[1]) for pair in inner.codes.items()])
    wire_leaving(wiring, rest, whole, memory, code_gate(wiring, inner, ENDED))


# Gone on with where the sign is there nothing is done: a hold rests on where it rested, a watch has ended.
def wire_skipping(wiring, part, whole, inner):
    sign = wiring.signs[part[1]]
    skips = wiring.every_of([whole.runs, inner.rests, sign])
    goes = wiring.some_of([wiring.opposite(inner.rests), wiring.opposite(sign)])
    wiring.fill(inner.runs, "all", [whole.runs, goes])
    held = [wiring.every_of([skips, whole.kept])] if part[0] == "hold" else []
    wiring.fill(inner.stays, "some", [whole.stays] + held)
    code = RESTS if part[0] == "hold" else ENDED
    whole.codes = wiring.joined(list(inner.codes.items()) + [(code, skips)])


def code_gate(wiring, whole, code):
    return whole.codes[code] if code in whole.codes else wiring.some_of([])
