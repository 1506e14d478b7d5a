"""Slow ways to look at the worths of members of classes, by the words of points [13] and [14]."""

import itertools

from helpers import parts
from leastequal.costs import Both, Depth, Weights, cost_of
from leastequal.terms import levels_of, size_of
from slow_registers import is_call


def inner_of(node):
    return node[1:] if parts(node) else ()


def settle(classes, cost):
    """By class: worth, size, levels and term by the told way; all nodes are looked at anew each time."""
    settled = {}
    while len(settled) < len(classes.places):
        offers = []
        for place in classes.places:
            for index, node in enumerate(classes.nodes(place)):
                if place not in settled and all(part in settled for part in inner_of(node)):
                    term = (node[0], *[settled[part][3] for part in inner_of(node)]) if inner_of(node) else node
                    offers.append((cost_of(term, cost), size_of(term), levels_of(term), place, index, term))
        worth, size, levels, place, _, term = min(offers)
        settled[place] = (worth, size, levels, term)
    return settled


def least_worths(classes, weight_of, registers, price=None):
    """By class: the least worths of members for 1, 2, .. registers, None for no member.

    They are found by going through all nodes and all orders of parts again and again, until nothing is lowered.
    """
    best = {place: [None] * (registers + 1) for place in classes.places}

    def part_for(place, need):
        if need < 1:
            return None
        found = [best[place][need]]
        if price is not None and best[place][registers] is not None:
            found.append(best[place][registers] + price)
        return min([one for one in found if one is not None], default=None)

    changed = True
    while changed:
        changed = False
        for place in classes.places:
            for node in classes.nodes(place):
                inner = inner_of(node)
                orders = [(0,) * len(inner)] if is_call(node[0]) else list(itertools.permutations(range(len(inner))))
                for need, order in itertools.product(range(1, registers + 1), orders):
                    added = [part_for(part, need - ahead) for part, ahead in zip(inner, order)]
                    if None not in added:
                        made = weight_of(node[0]) + sum(added)
                        if best[place][need] is None or made < best[place][need]:
                            best[place][need] = made
                            changed = True
    return {place: tuple(found[1:]) for place, found in best.items()}


def weigher(table, other):
    """The weight of a label or a leaf by a table."""
    return lambda label: table.get(label, table.get(label.split(" ")[0], other))


def worth_from(label, worths, cost):
    """The worth of a label from those of its parts, or of a leaf."""
    if isinstance(cost, Both):
        return tuple(worth_from(label, [worth[index] for worth in worths], (cost.first, cost.second)[index]) for index in (0, 1))
    if isinstance(cost, (Weights, Depth)):
        weight = weigher(dict(cost.table), cost.other)(label)
        return weight + (sum(worths) if isinstance(cost, Weights) else max(worths, default=0))
    if not worths or is_call(label):
        return max(worths, default=1)
    return min(max(need + index for index, need in enumerate(some)) for some in itertools.permutations(worths))


def undercut(classes, cost, table):
    """Whether some node has a lesser worth than the floor of its class."""
    return any(
        worth_from(node[0], [table[part] for part in inner_of(node)], cost) < table[place] for place in classes.places for node in classes.nodes(place)
    )
