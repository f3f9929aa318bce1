"""Programs at the bounds of point [2] and somewhat beyond: 150 parts, 60 rests, 30 signs, 6 traps, 100 deep."""

from samples import Sampler

N = ("nothing",)


def beside(parts):
    return joined("beside", parts)


def joined(word, parts):
    whole = parts[0]
    for part in parts[1:]:
        whole = (word, whole, part)
    return whole


def sixty_rests():
    """119 parts that rest at all places at once, one after another, and by which sign is there."""
    yield (2, 28, 30, beside([("rest", rest) for rest in range(60)]))
    yield (2, 28, 30, joined("then", [("rest", rest) for rest in range(60)]))
    held = [(("hold", "watch")[rest % 2], rest % 30, ("rest", rest)) for rest in range(38)]
    yield (2, 28, 30, beside(held))
    kept = [("again", rest, ("send", rest % 30)) for rest in range(50)]
    yield (2, 28, 30, beside(kept))


def thirty_signs():
    """Signs that hang on one another in a row, so that each takes a round of its own."""
    for last in (("send", 2), ("if", 0, ("send", 2), N), ("if", 29, ("send", 2), N), ("if", 29, N, ("send", 2))):
        rows = [("if", sign - 1, ("send", sign), N) for sign in range(3, 30)]
        yield (2, 28, 30, beside([("again", 0, ("if", 1, N, last))] + rows))


def six_traps():
    """Exits to each of the traps beside one another, each asking for a sign of its own."""
    rows = [("if", trap, ("then", ("rest", trap), ("exit", trap)), ("again", 6 + trap, ("send", 6 + trap)))
            for trap in range(6)]
    whole = beside(rows)
    for trap in range(6):
        whole = ("trap", ("then", whole, ("send", 12 + trap)))
    yield (6, 24, 30, ("again", 12, whole))
    yield (6, 24, 30, beside([whole, ("again", 12, ("if", 17, ("send", 18), N))]))


def deep(depth):
    """One kind of part within itself, and all within one another."""
    yield (1, 1, 2, nested(depth, lambda inner, level: ("again", level, inner), ("send", 1)))
    yield (1, 1, 2, nested(depth, lambda inner, level: ("hold", 0, inner), ("then", ("rest", 0), ("send", 1))))
    yield (1, 1, 2, nested(depth, lambda inner, level: ("watch", 0, inner), ("then", ("rest", 0), ("send", 1))))
    yield (1, 1, 2, nested(depth, lambda inner, level: ("then", inner, N), ("rest", 0)))
    yield (1, 1, 2, nested(depth, lambda inner, level: ("then", N, inner), ("rest", 0)))
    yield (1, 1, 2, nested(depth, lambda inner, level: ("beside", inner, N), ("rest", 0)))
    yield (1, 1, 2, nested(depth, lambda inner, level: ("beside", N, inner), ("rest", 0)))
    yield (1, 1, 2, nested(depth, lambda inner, level: ("if", 0, N, inner), ("rest", 0)))
    yield (1, 1, 2, nested(depth, lambda inner, level: ("if", 1, inner, N), ("rest", 0)))
    yield (2, 1, 3, nested(depth, mixed, ("then", ("rest", 0), ("if", 0, ("exit", 1), ("send", 2)))))


def mixed(inner, level):
    if level in (1, 2, 20, 40, 60, 80):
        return ("trap", inner)
    kinds = (("again", level, inner), ("hold", 0, inner), ("then", inner, ("send", 2)), ("watch", 1, inner),
             ("beside", inner, N), ("if", 1, N, inner))
    return kinds[level % 6]


def nested(depth, around, leaf):
    whole = leaf
    for level in range(1, depth):
        whole = around(whole, level)
    return renumbered(whole)


def renumbered(part):
    """The same part with its rests numbered from 0 in the order in which they end."""
    numbers = iter(range(1000))

    def again(inner):
        pieces = [again(piece) if isinstance(piece, tuple) else piece for piece in inner]
        if inner[0] in ("rest", "again"):
            pieces[1] = next(numbers)
        return tuple(pieces)

    return again(part)


def by_chance():
    sampler = Sampler(180)
    for count in range(12):
        yield sampler.program((150, 160)[count % 2], count % 6, 3, (30, 33, 12, 6)[count % 4])


def great_programs():
    for programs in (sixty_rests(), thirty_signs(), six_traps(), deep(100), deep(120), by_chance()):
        yield from programs
