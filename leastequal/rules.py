"""Rules, which say that two terms are equal, what is judged of them, and books of rules."""

from leastequal.checks import first_twice, is_integer, is_list, is_within
from leastequal.errors import BadBook, BadNumber, BadRule, Impossible, Misfit, Twice
from leastequal.every import holds
from leastequal.forms import checked_term, kind_of, many_levels, many_parts, parts_as_ended, spellings_in, term_of
from leastequal.papers import Denial, Paper
from leastequal.plain_forms import plain_form_of
from leastequal.polynomials import parting, polynomial
from leastequal.program import MOST_LEAST
from leastequal.sheets import Scene, Sheet
from leastequal.spellings import DIGITS, LETTERS, called
from leastequal.sums import is_sum

MOST_SIGNS = 40
MOST_SIZE = 200
MOST_LEVELS = 30
MOST_RULES = 100
MOST_SIGNS_IN_BOOK = 12
MOST_SIZE_IN_BOOK = 30
# What tells a fold or a turn in steps, so no rule is called so.
NO_RULES = ("fold", "turn")


class Taken(Paper):
    """Two terms are equal: "sums" and their polynomial, or "plain" and the Holds of their plain form."""

    def __init__(self, way, paper):
        Paper.__init__(self, "taken", way, paper)
        self.way = self.parts[0]
        self.paper = self.parts[1]


class NotTaken(Denial):
    """Two terms are not equal: they have unlike values at this width for these words, truths and memory."""

    def __init__(self, width, names, flags, memory):
        Denial.__init__(self, "nottaken", width, names, flags, memory)
        self.width = self.parts[0]
        self.names = self.parts[1]
        self.flags = self.parts[2]
        self.memory = self.parts[3]


class Unsure(Denial):
    """Nothing is told of two terms: their plain form fails, but perhaps not they."""

    def __init__(self, paper):
        Denial.__init__(self, "unsure", paper)
        self.paper = self.parts[0]


class Rule:
    """A rule: a name, its left and its right term, and 2 if steps go both ways, otherwise 1."""

    def __init__(self, name, left, right, ways):
        if not _is_rule_name(name):
            raise BadRule("name")
        first = _side_of(left)
        if first is None or not _is_left(first):
            raise BadRule("left")
        second = _side_of(right)
        if second is None or kind_of(second) != kind_of(first) or not _has_all(first, second):
            raise BadRule("right")
        if not is_integer(ways) or ways not in (1, 2) or (ways == 2 and not _goes_back(first, second)):
            raise BadRule("ways")
        self.name = name
        self.left = first
        self.right = second
        self.ways = ways

    def __eq__(self, other):
        if not isinstance(other, Rule) or self.name != other.name or self.ways != other.ways:
            return False
        return self.left == other.left and self.right == other.right


def _is_rule_name(value):
    if not isinstance(value, str) or not 1 <= len(value) <= MOST_SIGNS or value in NO_RULES:
        return False
    words = value.split(" ")
    return all([word != "" and all([sign in LETTERS or sign in DIGITS for sign in word]) for word in words])


def _side_of(value):
    """The term that any value is, if it is small enough for a side of a rule; otherwise None."""
    term = term_of(value)
    if term is None or many_parts(term) > MOST_SIZE or many_levels(term) > MOST_LEVELS:
        return None
    return term


def _is_left(term):
    """Whether a term may be looked for: it is more than a name or a flag, and none is spelt as the other."""
    if term[0] in ("name", "flag"):
        return False
    flags = spellings_in(term, "flag")
    return not any([name in flags for name in spellings_in(term, "name")])


def _has_all(one, other):
    """Whether a term has all names and flags of another one."""
    for leaf in ("name", "flag"):
        its = spellings_in(one, leaf)
        if not all([spelling in its for spelling in spellings_in(other, leaf)]):
            return False
    return True


def _goes_back(left, right):
    """Whether steps may go from the right to the left."""
    return right[0] not in ("name", "flag") and _has_all(right, left)


def plain_form(left, right):
    """The plain form of two terms of one kind, and the pairs of a new name and what it stands for."""
    one = checked_term(left, "left")
    other = checked_term(right, "right")
    _check_kinds(one, other)
    return plain_form_of(one, other)


def checked_sides(left, right, least):
    """The two terms of one kind that are to be judged from a least width on."""
    one = checked_term(left, "left")
    other = checked_term(right, "right")
    if not is_within(least, 1, MOST_LEAST):
        raise BadNumber("least")
    _check_kinds(one, other)
    return one, other


def _check_kinds(one, other):
    if kind_of(one) != kind_of(other):
        raise Misfit("kind")


def judged(left, right, least):
    """Whether two terms are equal from a least width on: a Taken, a NotTaken or an Unsure."""
    one, other = checked_sides(left, right, least)
    if is_sum(one) and is_sum(other):
        parts = parting(one, other, least)
        return Taken("sums", polynomial(one)) if parts is None else NotTaken(parts[0], parts[1], (), ())
    paper = holds(plain_form_of(one, other)[0], least)
    if paper:
        return Taken("plain", paper)
    if has_calls(one) or has_calls(other):
        return Unsure(paper)
    told = told_by(paper, one, other)
    if not are_unlike(one, other, paper.width, told, paper.memory):
        return Unsure(paper)
    names, flags = [[(leaf[1], told[leaf]) for leaf in told if leaf[0] == kind] for kind in ("name", "flag")]
    return NotTaken(paper.width, names, flags, paper.memory)


def has_calls(term):
    """Whether a call or a loop stands in a term."""
    return any([called(part[0]) is not None for part in parts_as_ended(term)])


def told_by(paper, left, right):
    """By leaf: what a Fails of their plain form tells of the names and flags of two terms, 0 and False where nothing.

    The names come first, then the flags, both ascending.
    """
    told = {}
    for kind, pairs, other in (("name", paper.names, 0), ("flag", paper.flags, False)):
        given = {spelling: worth for spelling, worth in pairs}
        for spelling in sorted(set(spellings_in(left, kind) + spellings_in(right, kind))):
            told[(kind, spelling)] = given.get(spelling, other)
    return told


def are_unlike(left, right, width, told, memory):
    """Whether two terms without calls and loops have unlike values, with words and truths by leaf, and a memory."""
    scene = Scene([], 0, width, {address: word for address, word in memory})
    values = Sheet(list(told), [left, right], scene.mask).work_out(list(told.values()), scene)
    return values[0] != values[1]


def taken(rule, least):
    """What is judged of the two sides of a rule."""
    check_rule(rule)
    return judged(rule.left, rule.right, least)


def check_rule(rule):
    """Raises BadRule for what is no Rule."""
    if not isinstance(rule, Rule):
        raise BadRule("rule")


class Book:
    """A book: small rules, all of which hold from its least width on."""

    def __init__(self, least, rules):
        if not is_within(least, 1, MOST_LEAST):
            raise BadNumber("least")
        if not is_list(rules) or len(rules) > MOST_RULES or not all([isinstance(rule, Rule) for rule in rules]):
            raise BadRule("rules")
        if not all([_is_for_books(rule) for rule in rules]):
            raise BadBook("rules")
        twice = first_twice([rule.name for rule in rules])
        if twice is not None:
            raise Twice(twice)
        for rule in rules:
            paper = taken(rule, least)
            if not paper:
                raise Impossible(paper)
        self.least = least
        self.rules = tuple(rules)

    def __eq__(self, other):
        return isinstance(other, Book) and self.least == other.least and self.rules == other.rules


def _is_for_books(rule):
    if " " in rule.name or len(rule.name) > MOST_SIGNS_IN_BOOK:
        return False
    sides = (rule.left, rule.right)
    return not any([many_parts(side) > MOST_SIZE_IN_BOOK or has_calls(side) for side in sides])


def check_book(book):
    """Raises BadBook for what is no Book."""
    if not isinstance(book, Book):
        raise BadBook("book")
