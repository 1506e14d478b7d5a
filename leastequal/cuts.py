"""Cuts of terms: how few parts are stored so that what is left can be worked out with so many registers."""

from leastequal.forms import parts_of
from leastequal.spellings import called
from leastequal.walks import bottom_up

# The orders in which so many parts are worked out: by part, how many of them stand ahead of it.
ORDERS = (
    ((),),
    ((0,),),
    ((0, 1), (1, 0)),
    ((0, 1, 2), (0, 2, 1), (1, 0, 2), (1, 2, 0), (2, 0, 1), (2, 1, 0)),
)


class Cuts:
    """For a term and a number of registers: by each part, in how few stores what is left of it has which need.

    A counted part is (counts, label, counted parts): counts has by need, up to so many registers, the least number of
    stores below the part, None if there is none.
    """

    def __init__(self, term, registers):
        self.registers = registers
        self.whole = bottom_up(term, parts_of, self.counted)

    def fewest(self):
        """The least number of stores."""
        return self.whole[0][self.registers]

    def counted(self, part, inner):
        """A part with its counts, from those of its parts."""
        counts = [None]
        for need in range(1, self.registers + 1):
            # What is worked out without stores needs none for a greater need either.
            ways = [] if counts[-1] == 0 else needs_of_parts(part[0], len(inner), need)
            totals = [total for total in [self.stores_in(inner, needs) for needs in ways] if total is not None]
            counts.append(min(totals, default=None) if ways else 0)
        return counts, part[0], inner

    def stores_in(self, inner, needs):
        """The least number of stores by which parts have these needs at most; None if there is none."""
        total = 0
        for one, need in zip(inner, needs):
            if need < 1:
                return None
            counts = one[0]
            total += 1 + counts[self.registers] if self.is_stored(counts, need) else counts[need]
        return total

    def is_stored(self, counts, need):
        """Whether a part with these counts is stored where a need is wanted of it."""
        return counts[need] is None or counts[need] > 1 + counts[self.registers]

    def best_places(self):
        """The places of a cut with the fewest stores, ascending."""
        found = []
        waiting = [(self.whole, (), self.registers)]
        while waiting:
            (counts, label, inner), place, need = waiting.pop()
            for index, (one, its) in enumerate(zip(inner, self.best_needs(counts[need], label, inner, need))):
                if self.is_stored(one[0], its):
                    found.append((*place, index))
                    waiting.append((one, (*place, index), self.registers))
                else:
                    waiting.append((one, (*place, index), its))
        return tuple(sorted(found))

    def best_needs(self, fewest, label, inner, need):
        """The needs of parts by which there are just as few stores."""
        for needs in needs_of_parts(label, len(inner), need):
            if self.stores_in(inner, needs) == fewest:
                return needs
        return ()


def needs_of_parts(label, many, need):
    """The ways to tell how great a need each of so many parts may have, if the whole may have this one."""
    if called(label) is not None:
        return [(need,) * many]
    return [tuple([need - ahead for ahead in order]) for order in ORDERS[many]]
