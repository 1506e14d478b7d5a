"""Plain terms: what they mean, and their pieces."""

from leastequal.errors import NoName
from leastequal.forms import checked_term, parts_as_ended
from leastequal.given import checked_truths, checked_words, memory_at
from leastequal.pieces import Pieces, checked_plain, checked_plain_truth, has_plain_labels
from leastequal.sheets import Scene, Sheet
from leastequal.words import check_width


def is_plain(term):
    """Whether a term is plain."""
    return has_plain_labels(checked_term(term, "term"))


def plain_value(term, width, names, flags, memory):
    """The word or the truth that a plain term means at a width."""
    whole = checked_plain(term, "term")
    check_width(width)
    words = checked_words(names, "names")
    truths = checked_truths(flags, "flags")
    scene = Scene([], 0, width, memory_at(checked_words(memory, "memory"), width))
    told = {}
    for part in parts_as_ended(whole):
        if part[0] in ("name", "flag"):
            given = words if part[0] == "name" else truths
            if part[1] not in given:
                raise NoName(part[1])
            told[part] = given[part[1]] & scene.mask if part[0] == "name" else given[part[1]]
    return Sheet(list(told), [whole], scene.mask).work_out(list(told.values()), scene)[0]


def pieces_of(truth):
    """The pieces of a plain truth term, and the addresses of its reads, as terms."""
    pieces = Pieces(checked_plain_truth(truth, "truth"))
    pieces.add_pairs()
    terms = pieces.as_terms()
    return tuple(terms), tuple([terms[address] for address, _ in pieces.reads])
