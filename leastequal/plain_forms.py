"""The plain form of two terms of one kind: new names stand for calls, loops and products of atoms."""

from leastequal.errors import TooMany
from leastequal.forms import GREATEST_NUMBER, is_leaf, is_number, kind_of, parts_as_begun, parts_of, spellings_in
from leastequal.interned import Interned
from leastequal.spellings import called
from leastequal.sums import MOST_SPREAD, is_sum_label, polynomial_of, spread_of, sum_parts
from leastequal.walks import begun, bottom_up


def plain_form_of(left, right):
    """The plain form, and the pairs of a new name and the term that it stands for."""
    _check_spreads(left)
    _check_spreads(right)
    spellings = [one for term in (left, right) for leaf in ("name", "flag") for one in spellings_in(term, leaf)]
    maker = Maker(spellings)
    one = maker.made(left)
    other = maker.made(right)
    if kind_of(left) == "word":
        return ("eq", one, other), tuple(maker.stands)
    return ("either", ("both", one, other), ("both", ("no", one), ("no", other))), tuple(maker.stands)


def _inner(pair):
    """The parts of a part, each with whether it is the whole of what labels of sum terms reach."""
    part = pair[0]
    is_whole = not is_sum_label(part[0])
    return [(one, is_whole) for one in parts_of(part)]


def _check_spreads(term):
    for part, is_whole in begun((term, True), _inner):
        if is_whole and _is_product(part) and spread_of(part) > MOST_SPREAD:
            raise TooMany("monomials", MOST_SPREAD)


def _is_product(term):
    """Whether labels of sum terms reach a mul of which no part is a written number."""
    reached = [part for part in begun(term, sum_parts) if part[0] == "mul"]
    return any([part[1][0] != "number" and part[2][0] != "number" for part in reached])


def _atoms_of(term):
    """The atoms of a term, in the order in which they are reached."""
    return [part for part in begun(term, sum_parts) if part[0] == "name" or not is_sum_label(part[0])]


def _signs_of(term):
    """A row of strings and numbers for a made term: such rows ascend as the terms do.

    A made term may be very deep, too deep to be compared part by part within parts.
    """
    return [sign for part in parts_as_begun(term) for sign in (part if is_leaf(part) else part[:1])]


class Maker:
    """Makes terms plain, and keeps the new names with what they stand for."""

    def __init__(self, spellings):
        self.spellings = {spelling: True for spelling in spellings}
        self.interned = Interned()
        self.names = {}
        self.stands = []
        self.many_tried = 0

    def made(self, term):
        """What is made of a term."""
        return bottom_up((term, True), _inner, self.part_made)

    def part_made(self, pair, inner):
        """What is made of a part whose own parts are made."""
        part, is_whole = pair
        whole = (part[0], *inner) if inner else part
        if called(part[0]) is not None:
            return self.name_for(("call", self.interned.number_of(whole)), whole)
        return self.sum_made(whole) if is_whole and _is_product(whole) else whole

    def name_for(self, key, term):
        """The new name that stands for a term; key is one for all equal terms."""
        if key not in self.names:
            spelling = self.next_spelling()
            self.names[key] = ("name", spelling)
            self.stands.append((spelling, term))
        return self.names[key]

    def next_spelling(self):
        """The next new name."""
        while True:
            spelling = f"p{self.many_tried}"
            self.many_tried += 1
            if spelling not in self.spellings:
                return spelling

    def sum_made(self, term):
        """The polynomial of a term over its atoms, as a plain term."""
        by_number = {self.interned.number_of(atom): atom for atom in _atoms_of(term)}
        numbers = [number for _, number in sorted([(_signs_of(by_number[number]), number) for number in by_number])]
        atoms = [by_number[number] for number in numbers]
        ranks = {number: rank for rank, number in enumerate(numbers)}
        found = polynomial_of(term, lambda atom: ranks[self.interned.number_of(atom)])
        made = []
        for product in sorted(found):
            key = ("product", *[numbers[rank] for rank in product])
            one = self.summand(key, [atoms[rank] for rank in product], found[product])
            made = [("add", made[0], one)] if made else [one]
        return made[0] if made else ("number", 0)

    def summand(self, key, atoms, times):
        """What is added for a product of atoms that is taken so many times."""
        if not atoms:
            return _number(times)
        whole = atoms[0]
        for atom in atoms[1:]:
            whole = ("mul", whole, atom)
        one = whole if len(atoms) == 1 else self.name_for(key, whole)
        return one if times == 1 else ("mul", _number(times), one)


def _number(times):
    if not is_number(times):
        raise TooMany("number", GREATEST_NUMBER)
    return ("number", times)
