"""Sides of rules that are looked for in classes."""

from leastequal.forms import is_leaf, parts_as_ended, parts_of
from leastequal.walks import bottom_up


def leaves_of(side):
    """The names and flags of a side, ascending by their spellings."""
    leaves = {part: part[1] for part in parts_as_ended(side) if is_open_leaf(part)}
    return [leaf for _, leaf in sorted([(spelling, leaf) for leaf, spelling in leaves.items()])]


def is_open_leaf(part):
    """Whether a part of a side stands for other terms."""
    return part[0] in ("name", "flag")


def with_leaves(side, stands):
    """A side with terms in the place of its names and flags, where stands tells one by the leaf."""
    def exchanged(part, inner):
        if is_open_leaf(part):
            return stands.get(part, part)
        return (part[0], *inner) if inner else part

    return bottom_up(side, parts_of, exchanged)


class Pattern:
    """A side made ready to be looked for.

    The classes that its parts match are found one after another and stand in slots, the class of the side first. Each
    step looks at a slot that is there: it puts the classes of the parts of some node behind the others ("open"), or
    wants the class of another slot ("same") or that of a part all of whose leaves have slots ("equal"). Where the parts
    are put and a leaf among them has a slot already, just the nodes with this class there are gone through.
    """

    def __init__(self, side, look):
        self.look = look
        self.steps = []
        self.slots = {}
        self.sorted_rows = {}
        self.leaves = leaves_of(side)
        ready = bottom_up(side, parts_of, self.make_ready)
        self.start = list(ready[2])
        self.plan(ready)

    def make_ready(self, part, inner):
        """A part with its own parts, and by class those of its nodes that it may match; None for what matches all."""
        if is_open_leaf(part):
            return part, inner, None
        if is_leaf(part):
            return part, inner, {self.look.homes[part]: [()]} if part in self.look.homes else {}
        wanted = [(index, one[2]) for index, one in enumerate(inner) if one[2] is not None]
        table = {}
        for place, rows in self.look.by_label.get(part[0], {}).items():
            # Calls and loops with one label may have unlike numbers of parts.
            rows_as_long = [row for row in rows if len(row) == len(inner)]
            fitting = [row for row in rows_as_long if all([row[index] in its for index, its in wanted])]
            if fitting:
                table[place] = fitting
        return part, inner, table

    def plan(self, ready):
        """Makes the steps."""
        many = 1
        waiting = [(ready, 0)]
        while waiting:
            (part, inner, table), slot = waiting.pop()
            if is_open_leaf(part) and part not in self.slots:
                self.slots[part] = slot
            elif is_open_leaf(part):
                self.steps.append(("same", slot, self.slots[part], None))
            elif all([leaf in self.slots for leaf in leaves_of(part)]):
                self.steps.append(("equal", slot, part, None))
            else:
                told = [(index, self.slots[one[0]]) for index, one in enumerate(inner) if self.has_slot(one[0])]
                self.steps.append(("open", slot, table, told[0] if told else None))
                behind = [(one, many + index) for index, one in enumerate(inner)]
                many += len(inner)
                # What is told by a leaf is looked at first, as it leaves the fewest ways.
                waiting.extend([pair for pair in behind[::-1] if not is_leaf(pair[0][0])])
                waiting.extend([pair for pair in behind[::-1] if is_leaf(pair[0][0])])

    def matches(self, most):
        """The matches, in any order: pairs of a class and the classes for the leaves; one above most at most."""
        found = []
        waiting = [(0, (place,)) for place in self.start]
        while waiting and len(found) <= most:
            index, slots = waiting.pop()
            if index == len(self.steps):
                found.append((slots[0], tuple([slots[self.slots[leaf]] for leaf in self.leaves])))
                continue
            action, slot, what, _ = self.steps[index]
            if action == "open":
                waiting.extend([(index + 1, slots + row) for row in self.rows_for(index, slots)])
            elif slots[slot] == (slots[what] if action == "same" else self.place_of(what, slots)):
                waiting.append((index + 1, slots))
        return found

    def has_slot(self, part):
        """Whether a part is a name or a flag that has a slot."""
        return is_open_leaf(part) and part in self.slots

    def rows_for(self, index, slots):
        """The nodes at a step, just those with the right class where a leaf with a slot tells it."""
        _, slot, table, told = self.steps[index]
        place = slots[slot]
        if told is None:
            return table.get(place, [])
        if (index, place) not in self.sorted_rows:
            by_part = {}
            for row in table.get(place, []):
                by_part.setdefault(row[told[0]], []).append(row)
            self.sorted_rows[(index, place)] = by_part
        return self.sorted_rows[(index, place)].get(slots[told[1]], [])

    def place_of(self, part, slots):
        """The class in which a part lies, all of whose leaves have slots; None if it lies in none."""
        def place(one, inner):
            if is_open_leaf(one):
                return slots[self.slots[one]]
            return None if None in inner else self.look.homes.get((one[0], *inner) if inner else one)

        return bottom_up(part, parts_of, place)
