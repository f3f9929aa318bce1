"""Settling: which signs are there in an instant, found in rounds by what must and what can be sent."""

from signalwise.remaining import body_to_begin
from signalwise.walking import walked


def rounds(program, state, coming):
    body = body_to_begin(program, state)
    known = known_at_first(program, coming)
    told = []
    changes = changes_by(body, known)
    while changes:
        told.append(changes)
        known = known_behind(known, changes)
        changes = changes_by(body, known)
    return told


def settled(program, state, coming):
    known = known_at_first(program, coming)
    for changes in rounds(program, state, coming):
        known = known_behind(known, changes)
    return known


def signs_that_are(value, known):
    return [sign for sign, one in enumerate(known) if one == value]


def known_at_first(program, coming):
    return [True if sign in coming else None for sign in range(program[2])]


def known_behind(known, changes):
    behind = list(known)
    for change in changes:
        behind[change[0]] = change[1]
    return behind


def changes_by(body, known):
    must = []
    can = []
    if body is not None:
        walk = walked(body, None, True, known)
        must = walk[2]
        can = walk[3]
    waiting = signs_that_are(None, known)
    return [(sign, sign in must) for sign in waiting if sign in must or sign not in can]
