"""Parts within parts, of named and of plain ones alike: both hold other parts as tuples and nothing else as such."""


def inner_parts(part):
    return [piece for piece in part if isinstance(piece, tuple)]


# With a list of its own in the place of recursion: a row of some hundred parts lies deeper than calls may go.
def every_part(part):
    found = []
    waiting = [part]
    while waiting:
        here = waiting.pop()
        found.append(here)
        waiting.extend(inner_parts(here))
    return found
