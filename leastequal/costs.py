"""Costs, which tell a worth of each term."""

from leastequal.checks import is_within, pairs_of
from leastequal.errors import BadCost, TooMany
from leastequal.forms import checked_term, parts_of
from leastequal.needs import need_by
from leastequal.program import check_program
from leastequal.spellings import called
from leastequal.walks import bottom_up

MOST_WEIGHT = 1000000000000
WORDS = (
    "number", "name", "flag", "true", "false", "add", "sub", "mul", "and", "or", "xor", "neg", "flip", "shl", "at",
    "if", "call", "loop", "eq", "lt", "less", "both", "either", "no",
)


class Weights:
    """The worth is the sum of the weights of all leaves and labels."""

    def __init__(self, table, other):
        pairs = _table_of(table, 1)
        if pairs is None:
            raise BadCost("table")
        if not is_within(other, 1, MOST_WEIGHT):
            raise BadCost("other")
        self.table = pairs
        self.other = other

    def __eq__(self, other):
        return isinstance(other, Weights) and self.table == other.table and self.other == other.other


class Depth:
    """The worth is the weight of the leaf or label, with the greatest worth of the parts."""

    def __init__(self, table, other):
        pairs = _table_of(table, 0)
        if pairs is None:
            raise BadCost("table")
        if not is_within(other, 0, MOST_WEIGHT):
            raise BadCost("other")
        self.table = pairs
        self.other = other

    def __eq__(self, other):
        return isinstance(other, Depth) and self.table == other.table and self.other == other.other


class Needs:
    """The worth is the need of registers."""

    def __eq__(self, other):
        return isinstance(other, Needs)


class Both:
    """The worth is the pair of the worth by weights and the worth by another cost."""

    def __init__(self, first, second):
        if not isinstance(first, Weights):
            raise BadCost("first")
        if not isinstance(second, (Weights, Depth, Needs)):
            raise BadCost("second")
        self.first = first
        self.second = second

    def __eq__(self, other):
        return isinstance(other, Both) and self.first == other.first and self.second == other.second


def _table_of(value, least):
    """The pairs of words or labels and weights that a value is, ascending; None for any other value."""
    pairs = pairs_of(value)
    if pairs is None or not all([_is_key(key) and is_within(weight, least, MOST_WEIGHT) for key, weight in pairs]):
        return None
    return tuple(sorted(pairs))


def _is_key(value):
    return isinstance(value, str) and (value in WORDS or called(value) is not None)


def check_cost(cost):
    """Raises BadCost for what is no cost."""
    if not isinstance(cost, (Weights, Depth, Needs, Both)):
        raise BadCost("cost")


def cost_of(term, cost):
    """The worth of a term."""
    whole = checked_term(term, "term")
    check_cost(cost)
    worths = Worths(cost)
    return bottom_up(whole, parts_of, lambda part, inner: worths.worth_by(part[0], inner))


class Worths:
    """A cost made ready to tell worths."""

    def __init__(self, cost):
        self.cost = cost
        self.inner = [Worths(cost.first), Worths(cost.second)] if isinstance(cost, Both) else []
        self.weights = {key: weight for key, weight in cost.table} if isinstance(cost, (Weights, Depth)) else {}

    def weight_of_label(self, label):
        """The weight of a leaf or a label; that of a call's or a loop's own goes ahead of that of its word."""
        if label in self.weights:
            return self.weights[label]
        return self.weights.get(label.split(" ")[0], self.cost.other)

    def worth_by(self, label, worths):
        """The worth of a term with this label, or of such a leaf, from the worths of its parts."""
        if isinstance(self.cost, Both):
            pairs = list(enumerate(self.inner))
            return tuple([one.worth_by(label, [worth[index] for worth in worths]) for index, one in pairs])
        if isinstance(self.cost, Needs):
            return need_by(label, worths)
        if isinstance(self.cost, Depth):
            return self.weight_of_label(label) + max(worths, default=0)
        return self.weight_of_label(label) + sum(worths)


def work_weights(program):
    """The Weights by which the worth of each term that fits is its work in a program."""
    check_program(program)
    weights = {}
    for function in program.functions:
        works = [cost_of(result, Weights(weights, 1)) for result in function.results]
        made = {f"call {function.name} {index}": 1 + work for index, work in enumerate(works)}
        if len(works) == len(function.parameters):
            for index in range(len(works)):
                made[f"loop {function.name} {index}"] = 1 + program.rounds * sum(works)
        if max(list(made.values())) > MOST_WEIGHT:
            raise TooMany("work", MOST_WEIGHT)
        weights = {**weights, **made}
    return Weights(weights, 1)
