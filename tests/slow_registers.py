"""Slow ways to look at registers, cells and lists, by the words of point [14]."""

import itertools

from helpers import parts

PLAIN_LEAVES = {"name": 1, "number": 1, "flag": 1, "true": 0, "false": 0}


def is_call(label):
    return label.startswith(("call ", "loop "))


def part_at(term, place):
    for index in place:
        term = parts(term)[index]
    return term


def all_places(term):
    return [()] + [(index, *place) for index, part in enumerate(parts(term)) for place in all_places(part)]


def least_registers(term):
    """The fewest registers that are enough, by a search through all orders of rows; parts may be worked out again."""
    many = 1
    while not can_be_made(term, many):
        many += 1
    return many


def can_be_made(term, many):
    """Whether rows without cells make a term with so many registers; a state is what is held, and the open lists."""
    places = all_places(term)
    seen = {(frozenset(), ())}
    waiting = [(frozenset(), ())]
    while waiting:
        state = waiting.pop()
        if () in state[0] and not state[1]:
            return True
        for following in moves(term, places, *state):
            # What is held outside of a list cannot be taken in it, but it stays there.
            if len(following[0]) <= many and following not in seen:
                seen.add(following)
                waiting.append(following)
    return False


def moves(term, places, held, lists):
    inside = lists[-1][0] if lists else None
    for place in places:
        if inside is not None and (place[:len(inside)] != inside or place == inside):
            continue
        if place in held or any(one[0] == place for one in lists):
            continue
        part = part_at(term, place)
        inner = [(*place, index) for index in range(len(parts(part)))]
        if is_call(part[0]):
            if not any(one[:len(place)] == place for one in held):
                yield held, (*lists, (place, 0))
        elif all(one in held for one in inner):
            yield (held - set(inner)) | {place}, lists
    if lists:
        place, handed = lists[-1]
        if handed == len(parts(part_at(term, place))):
            if not any(one[:len(place)] == place for one in held):
                yield held | {place}, lists[:-1]
        elif (*place, handed) in held:
            yield held - {(*place, handed)}, (*lists[:-1], (place, handed + 1))


def slow_need(term):
    """The need of a term by the words of the document."""
    needs = sorted([slow_need(part) for part in parts(term)], reverse=True)
    if not needs:
        return 1
    if is_call(term[0]):
        return max(needs)
    return max(need + index for index, need in enumerate(needs))


class Wrong(Exception):
    """A row does not find what it takes."""


class SlowTrace:
    """Registers, cells and lists with terms in them."""

    def __init__(self):
        self.held = {}
        self.cells = {}
        self.lists = []

    def take(self, register):
        if register not in self.held or (self.lists and register not in self.lists[-1][0]):
            raise Wrong()
        for came, _ in self.lists:
            came.discard(register)
        return self.held.pop(register)

    def bring(self, register, term):
        self.held[register] = term
        for came, _ in self.lists:
            came.add(register)

    def do(self, row):
        label, *rest = row
        if label in PLAIN_LEAVES:
            self.bring(rest[0], (label, *rest[1:]))
        elif label == "open":
            self.lists.append((set(), []))
        elif label == "store":
            self.cells[rest[0]] = self.take(rest[1])
        elif label == "load":
            if rest[1] not in self.cells:
                raise Wrong()
            self.bring(rest[0], self.cells.pop(rest[1]))
        elif label == "hand" or is_call(label):
            if not self.lists:
                raise Wrong()
            if label == "hand":
                self.lists[-1][1].append(self.take(rest[0]))
                return
            came, handed = self.lists.pop()
            if came:
                raise Wrong()
            self.bring(rest[0], (label, *handed))
        else:
            inner = [self.take(one) for one in rest[1:]]
            self.bring(rest[0], (label, *inner))


def held_behind(rows):
    """What the registers hold behind right plain rows; None if one does not find what it takes, or a list is left."""
    trace = SlowTrace()
    try:
        for row in rows:
            trace.do(row)
    except Wrong:
        return None
    return None if trace.lists else trace.held


def slow_makes(term, rows):
    held = held_behind(rows)
    return held is not None and held.get(0) == term


def registers_named(rows):
    """The registers that plain rows name."""
    found = set()
    for label, *rest in rows:
        if label in PLAIN_LEAVES or label == "load":
            found.add(rest[0])
        elif label == "store":
            found.add(rest[1])
        else:
            found.update(rest)
    return found


def inner_places(term):
    """The places of all parts, not the term's own."""
    return all_places(term)[1:]


def left_of(term, place, cut):
    """What is left of the part at a place."""
    part = part_at(term, place)

    def left(one, at):
        if at != place and at in cut:
            return ("name", "s")
        inner = [left(deeper, (*at, index)) for index, deeper in enumerate(parts(one))]
        return (one[0], *inner) if inner else one
    return left(part, place)


def fits(term, many, cut):
    return all(slow_need(left_of(term, place, cut)) <= many for place in [(), *cut])


def fewest_by_trial(term, many):
    """The least number of places of a cut that fits, by a trial of all cuts."""
    places = [place for place in inner_places(term) if parts(part_at(term, place))]
    for size in range(len(places) + 1):
        for cut in itertools.combinations(places, size):
            if fits(term, many, cut):
                return size
    return None


def heavy(levels, leaf):
    """A term with a need of one more than twice these levels; its size is about 3 to the power of them, twice."""
    made = leaf
    for _ in range(levels):
        made = ("if", ("eq", made, leaf), made, made)
    return made
