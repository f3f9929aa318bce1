"""Plain parts, and ways to put them together, for the tests of instants and walks."""

N = ("nothing",)
R0, R1, R2, R3 = [("rest", k) for k in range(4)]
S0, S1, S2, S3 = [("send", s) for s in range(4)]
E0, E1, E2 = [("exit", d) for d in range(3)]


def then(*parts):
    whole = parts[0]
    for part in parts[1:]:
        whole = ("then", whole, part)
    return whole


def either(sign, *parts):
    """A part that can do each of the parts, where the sign is not known."""
    whole = parts[-1]
    for part in reversed(parts[:-1]):
        whole = ("if", sign, part, whole)
    return whole
