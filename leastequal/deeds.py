"""Deeds: whether any value is a list of deeds, their terms, and the same deeds with other terms."""

from leastequal.checks import is_list
from leastequal.forms import kind_of, many_levels, many_parts, spellings_in, term_of
from leastequal.spellings import is_name

MOST_DEEDS = 60
MOST_DEPTH = 6
MOST_LEVELS = 30
MOST_SIZE = 2000
# What stands behind the first word of each deed.
FORMS = {
    "set": ("name", "word"),
    "put": ("word", "word"),
    "tell": ("word",),
    "ask": ("name",),
    "when": ("truth", "deeds", "deeds"),
    "while": ("truth", "deeds"),
}


def program_term_of(value, kind):
    """The term of this kind that any value is, if a program may have it, in tuples alone; otherwise None."""
    term = term_of(value)
    if term is None or kind_of(term) != kind or spellings_in(term, "flag"):
        return None
    return term if many_levels(term) <= MOST_LEVELS and many_parts(term) <= MOST_SIZE else None


def deeds_of(value):
    """The list of deeds that any value is, in tuples alone; None for any other value."""
    made = _deeds_of(value, 1)
    return made if made is not None and len(deeds_within(made)) <= MOST_DEEDS else None


def _deeds_of(value, depth):
    if not is_list(value) or len(value) > MOST_DEEDS or (depth > MOST_DEPTH and len(value) > 0):
        return None
    made = [_deed_of(one, depth) for one in value]
    return None if None in made else tuple(made)


def _deed_of(value, depth):
    if not is_list(value) or len(value) == 0 or not isinstance(value[0], str):
        return None
    form = FORMS.get(value[0])
    if form is None or len(value) != 1 + len(form):
        return None
    made = [_operand_of(one, kind, depth) for one, kind in zip(value[1:], form)]
    return None if None in made else (value[0], *made)


def _operand_of(value, kind, depth):
    if kind == "name":
        return value if is_name(value) else None
    if kind == "deeds":
        return _deeds_of(value, depth + 1)
    return program_term_of(value, kind)


def deeds_within(deeds):
    """All deeds of a list, those within others too, in order."""
    found = []
    for deed in deeds:
        found.append(deed)
        for operand, kind in zip(deed[1:], FORMS[deed[0]]):
            if kind == "deeds":
                found.extend(deeds_within(operand))
    return found


def terms_in(deeds):
    """All terms of a list of deeds, in order."""
    found = []
    for deed in deeds_within(deeds):
        found.extend([one for one, kind in zip(deed[1:], FORMS[deed[0]]) if kind in ("word", "truth")])
    return found


def with_terms_in(deeds, terms):
    """The deeds with other terms, which are taken from the end of a list: the first one stands last there."""
    return [_with_terms(deed, terms) for deed in deeds]


def _with_terms(deed, terms):
    made = [deed[0]]
    for operand, kind in zip(deed[1:], FORMS[deed[0]]):
        if kind == "deeds":
            made.append(with_terms_in(operand, terms))
        else:
            made.append(operand if kind == "name" else terms.pop())
    return made


def names_in_deeds(deeds):
    """The names that a list of deeds sets or asks, ascending."""
    return tuple(sorted({deed[1] for deed in deeds_within(deeds) if deed[0] in ("set", "ask")}))
