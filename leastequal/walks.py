"""Ways through a value and all of its parts. They use no recursion, so a value may be as deep as it likes."""


def begun(whole, parts_of):
    """A value and all parts in it in the order in which they begin: each ahead of its own parts."""
    found = []
    waiting = [whole]
    while waiting:
        part = waiting.pop()
        found.append(part)
        waiting.extend(parts_of(part)[::-1])
    return found


def ended(whole, parts_of):
    """A value and all parts in it in the order in which they end: each behind its own parts."""
    found = []
    waiting = [whole]
    while waiting:
        part = waiting.pop()
        found.append(part)
        waiting.extend(parts_of(part))
    return found[::-1]


def bottom_up(whole, parts_of, make):
    """What make tells of a value and a list of what it told of each of its parts."""
    made = []
    for part in ended(whole, parts_of):
        first = len(made) - len(parts_of(part))
        told = made[first:]
        del made[first:]
        made.append(make(part, told))
    return made[0]
