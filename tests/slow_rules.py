"""Slow ways to work out what the document tells of sum terms and plain forms, part by part."""

import itertools

from helpers import name, number, subterms

SUMS = ("number", "name", "add", "sub", "neg", "mul")


def is_sum_label(label):
    return label in SUMS or label.startswith("shl ")


def integer(term, told):
    """What a sum term makes of integers for its names."""
    label = term[0]
    if label == "number":
        return term[1]
    if label == "name":
        return told[term[1]]
    values = [integer(part, told) for part in term[1:]]
    if label.startswith("shl "):
        return values[0] * 2 ** int(label[4:])
    return {"add": lambda: values[0] + values[1], "sub": lambda: values[0] - values[1],
            "mul": lambda: values[0] * values[1], "neg": lambda: -values[0]}[label]()


def names_of(*terms):
    return sorted({part[1] for term in terms for part in subterms(term) if part[0] == "name"})


def flags_of(*terms):
    return sorted({part[1] for term in terms for part in subterms(term) if part[0] == "flag"})


def spread(term, is_atom):
    if is_atom(term) or term[0] == "number":
        return 1
    inner = [spread(part, is_atom) for part in term[1:]]
    if term[0] in ("add", "sub"):
        return inner[0] + inner[1]
    return inner[0] * inner[1] if term[0] == "mul" else inner[0]


def polynomial(term, is_atom):
    """The pairs of a sorted product of atoms and an integer, as a list in any order."""
    if is_atom(term):
        return [((term,), 1)]
    if term[0] == "number":
        return [((), term[1])] if term[1] else []
    inner = [polynomial(part, is_atom) for part in term[1:]]
    if term[0] == "mul":
        pairs = [(tuple(sorted(a + b)), c * d) for a, c in inner[0] for b, d in inner[1]]
    elif term[0] in ("add", "sub"):
        pairs = inner[0] + [(product, many if term[0] == "add" else -many) for product, many in inner[1]]
    else:
        pairs = [(product, many * (-1 if term[0] == "neg" else 2 ** int(term[0][4:]))) for product, many in inner[0]]
    added = {}
    for product, many in pairs:
        added[product] = added.get(product, 0) + many
    return [(product, many) for product, many in added.items() if many]


def first_parting(one, other, least, most):
    """What parting tells, by a trial of all words of the widths up to a most; None if they are alike at all of these."""
    names = names_of(one, other)
    for width in range(least, most + 1):
        for words in itertools.product(range(2 ** width), repeat=len(names)):
            told = dict(zip(names, words))
            if (integer(one, told) - integer(other, told)) % 2 ** width:
                return width, tuple(zip(names, words))
    return None


class SlowForm:
    """The plain form of two terms, as point [8] tells it word by word."""

    def __init__(self, left, right):
        spelt = set(names_of(left, right)) | set(flags_of(left, right))
        self.fresh = (f"p{index}" for index in itertools.count() if f"p{index}" not in spelt)
        self.known = []
        self.stands = []
        self.too_great = False
        self.too_many = False
        one, other = self.made(left), self.made(right)
        self.truth = ("eq", one, other)
        if left[0] in ("flag", "true", "false", "eq", "lt", "less", "both", "either", "no"):
            self.truth = ("either", ("both", one, other), ("both", ("no", one), ("no", other)))

    def name_for(self, kind, what, term):
        for its, key, leaf in self.known:
            if (its, key) == (kind, what):
                return leaf
        leaf = name(next(self.fresh))
        self.known.append((kind, what, leaf))
        self.stands.append((leaf[1], term))
        return leaf

    def made(self, term):
        label = term[0]
        if label in ("flag", "true", "false"):
            return term
        if label.startswith(("call ", "loop ")):
            whole = (label, *[self.made(part) for part in term[1:]])
            return self.name_for("call", whole, whole)
        if not is_sum_label(label):
            return (label, *[self.made(part) for part in term[1:]])
        whole, free = self.with_atoms(term)
        return self.summed(whole) if free else whole

    def with_atoms(self, term):
        """The term with its atoms made, and whether a mul without a written number was gone through."""
        if term[0] in ("number", "name"):
            return term, False
        if not is_sum_label(term[0]):
            return self.made(term), False
        inner = [self.with_atoms(part) for part in term[1:]]
        free = term[0] == "mul" and "number" not in (term[1][0], term[2][0])
        return (term[0], *[one for one, _ in inner]), free or any(its for _, its in inner)

    def summed(self, term):
        def is_atom(part):
            return part[0] == "name" or not is_sum_label(part[0])
        if spread(term, is_atom) > 1000:
            self.too_many = True
            return term
        found = []
        for product, many in sorted(polynomial(term, is_atom)):
            self.too_great = self.too_great or ((not product or many != 1) and abs(many) > 2147483647)
            if not product:
                found.append(number(many))
                continue
            whole = product[0]
            for atom in product[1:]:
                whole = ("mul", whole, atom)
            if len(product) > 1:
                whole = self.name_for("product", product, whole)
            found.append(whole if many == 1 else ("mul", number(many), whole))
        made = found[0] if found else number(0)
        for one in found[1:]:
            made = ("add", made, one)
        return made


def balanced(label, terms):
    """Terms joined by a label of two parts, with few levels."""
    if len(terms) == 1:
        return terms[0]
    middle = len(terms) // 2
    return (label, balanced(label, terms[:middle]), balanced(label, terms[middle:]))


def power(base, exponent):
    return balanced("mul", [base] * exponent)


def shifted(term, times):
    """The term times 2 to a power, by labels shl."""
    while times:
        term, times = (f"shl {min(31, times)}", term), times - min(31, times)
    return term
