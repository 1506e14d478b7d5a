"""Terms made ready to be worked out with registers.

A plan is (need, head, plans of the parts): the head is a leaf, a label, or the number of a cell that has the term.
"""

from leastequal.forms import is_leaf, parts_of
from leastequal.needs import need_by
from leastequal.spellings import called
from leastequal.walks import bottom_up


def plan_of(term):
    """The plan of a term."""
    return bottom_up(term, parts_of, _planned)


def _planned(part, inner):
    return need_by(part[0], [plan[0] for plan in inner]), part if is_leaf(part) else part[0], inner


def plans_with_cut(term, cut):
    """The plan of what is left of each part of a cut, and at last of the term. Cells are numbered in this order.

    A part within another one is planned ahead of it, so its cell has it already when it is needed.
    """
    plans = []
    stored = {tuple(place): True for place in cut}

    def planned(pair, inner):
        part, place = pair
        made = _planned(part, inner)
        if place not in stored:
            return made
        plans.append(made)
        return 1, len(plans) - 1, []

    whole = bottom_up((term, ()), parts_with_places, planned)
    return [*plans, whole]


def parts_with_places(pair):
    """The parts of a term that is told with its place, with theirs."""
    part, place = pair
    return [(one, (*place, index)) for index, one in enumerate(parts_of(part))]


def rows_by(plan):
    """Plain rows that bring what a plan tells into the register 0, and name as many registers as it needs."""
    rows = []
    waiting = [(plan, 0)]
    while waiting:
        one, place = waiting.pop()
        if place is None:
            rows.append(one)
            continue
        _, head, inner = one
        if isinstance(head, int):
            rows.append(("load", place, head))
        elif isinstance(head, str):
            waiting.extend(_in_order(head, inner, place)[::-1])
        else:
            rows.append((head[0], place, *head[1:]))
    return rows


def _in_order(label, inner, place):
    """What brings a term with this label into a register, in order; the registers behind this one are free, too.

    These are pairs of a plan and its register, or of a row and None.
    """
    if called(label) is not None:
        handed = [pair for plan in inner for pair in ((plan, place), (("hand", place), None))]
        return [(("open",), None), *handed, ((label, place), None)]
    # The greatest need goes first, as each part that is done holds a register.
    order = [index for _, index in sorted([(-plan[0], index) for index, plan in enumerate(inner)])]
    registers = {index: place + ahead for ahead, index in enumerate(order)}
    parts = [(inner[index], registers[index]) for index in order]
    return [*parts, ((label, place, *[registers[index] for index in range(len(inner))]), None)]
