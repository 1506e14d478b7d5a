"""What single steps make of terms."""

from leastequal.calls import fold_of, turn_of
from leastequal.checks import are_integers, are_pairs, is_integer
from leastequal.forms import kind_of, term_of
from leastequal.patterns import leaves_of, with_leaves
from leastequal.places import exchanged, parts_on
from leastequal.rules import NO_RULES


class Stepping:
    """The rules of a shelf made ready to be used by their names."""

    def __init__(self, shelf):
        self.program = shelf.program
        self.rules = {rule.name: rule for rule in shelf.rules}

    def made(self, term, step):
        """A pair: what is wrong with a step, the last thing being "step", and None; or None and what it makes."""
        if not isinstance(step.rule, str) or (step.rule not in self.rules and step.rule not in NO_RULES):
            return "rule", None
        if not is_integer(step.way) or step.way not in (1, -1):
            return "way", None
        passed = parts_on(term, step.place) if are_integers(step.place, 0, None) else None
        if passed is None:
            return "place", None
        instances = self.instances(step)
        if instances is None:
            return "terms", None
        wanted, given = instances[::step.way]
        if passed[-1] != wanted:
            return "step", None
        return None, exchanged(passed, step.place, given)

    def instances(self, step):
        """The two instances of a step, None if it has other terms than it should."""
        if not are_pairs(step.terms):
            return None
        if step.rule in self.rules:
            return self.instances_of(self.rules[step.rule], step.terms)
        if len(step.terms) != 1 or step.terms[0][0] != "term":
            return None
        term = term_of(step.terms[0][1])
        if term is None:
            return None
        made = fold_of(term) if step.rule == "fold" else turn_of(self.program, term)
        return None if made is None else (term, made)

    def instances_of(self, rule, pairs):
        """The two sides of a rule with terms put in, None if pairs do not tell these."""
        leaves = leaves_of(rule.left)
        terms = [term_of(pair[1]) for pair in pairs]
        if [pair[0] for pair in pairs] != [leaf[1] for leaf in leaves] or None in terms:
            return None
        if not all([kind_of(term) == kind_of(leaf) for leaf, term in zip(leaves, terms)]):
            return None
        stands = {leaf: term for leaf, term in zip(leaves, terms)}
        return with_leaves(rule.left, stands), with_leaves(rule.right, stands)
