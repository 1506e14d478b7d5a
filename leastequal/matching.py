"""How sides of rules match terms and classes, and the folds and turns of classes."""

from leastequal.checks import is_integer
from leastequal.classes import check_classes
from leastequal.errors import BadNumber, BadTerm, Misfit, TooMany
from leastequal.forms import checked_term, kind_of, parts_of, spellings_in, term_of
from leastequal.looks import look_at
from leastequal.patterns import is_open_leaf
from leastequal.program import check_program
from leastequal.rules import check_rule

MOST_MATCHES = 10000


def matched(side, term):
    """The pairs of each name and flag of a side and what it stands for in a term, ascending; None if there are none."""
    wanted = term_of(side)
    if wanted is None:
        raise BadTerm("side")
    flags = spellings_in(wanted, "flag")
    if any([name in flags for name in spellings_in(wanted, "name")]):
        raise BadTerm("side")
    stands = {}
    waiting = [(wanted, checked_term(term, "term"))]
    while waiting:
        part, other = waiting.pop()
        if not is_open_leaf(part):
            parts = parts_of(part)
            if part[0] != other[0] or len(parts) != len(parts_of(other)) or (not parts and part != other):
                return None
            waiting.extend(list(zip(parts, parts_of(other))))
        elif kind_of(part) != kind_of(other) or stands.setdefault(part[1], other) != other:
            return None
    return tuple([(spelling, stands[spelling]) for spelling in sorted(stands)])


def matches(classes, rule, way):
    """The matches of a rule by a way: pairs of a class and the classes for the names and flags, ascending."""
    check_classes(classes, "classes")
    check_rule(rule)
    if not is_integer(way) or way not in (1, -1):
        raise BadNumber("way")
    if way == -1 and rule.ways == 1:
        raise Misfit("way")
    found = look_at(classes).matches_of(rule.left if way == 1 else rule.right, MOST_MATCHES)
    if len(found) > MOST_MATCHES:
        raise TooMany("matches", MOST_MATCHES)
    return tuple(found)


def folds(classes):
    """The pairs of a class and a term in it that folds, ascending."""
    check_classes(classes, "classes")
    return tuple(look_at(classes).folds_of(None))


def turns(classes, program):
    """The loops over numbers that turn: tuples of a class, a label, a number and other classes, ascending."""
    check_classes(classes, "classes")
    check_program(program)
    return tuple(look_at(classes).turns_of(program, None))
