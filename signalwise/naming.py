"""Names: whether each stands once where it is told, and is there where it is used."""

from signalwise.errors import NoName, Twice
from signalwise.tree import inner_parts

SIGN_USERS = ("send", "keep", "await", "if", "hold", "watch", "weak")


def check_once(names):
    if len(set(names)) < len(names):
        raise Twice("a name stands twice among ins and outs")


# A part's own name is looked at ahead of those within it, so the first one from the left is refused.
def check_there(part, signs, traps):
    if part[0] in SIGN_USERS:
        check_among(part[1], signs)
    if part[0] == "exit":
        check_among(part[1], traps)
    inner_signs = signs + [part[1]] if part[0] == "local" else signs
    inner_traps = traps + [part[1]] if part[0] == "trap" else traps
    for inner in inner_parts(part):
        check_there(inner, inner_signs, inner_traps)


def check_among(name, names):
    if name not in names:
        raise NoName(f"nothing here is called {name}")
