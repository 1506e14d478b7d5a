"""The texts of terms."""

from leastequal.errors import BadText
from leastequal.forms import checked_term, is_leaf
from leastequal.term_reader import Ground, Line, read_part

MOST_LEVELS = 90


def term_text(term):
    """The text of a term."""
    items = []
    waiting = [checked_term(term, "term")]
    while waiting:
        part = waiting.pop()
        if isinstance(part, str):
            items.append(part)
        elif is_leaf(part):
            items.append(leaf_text(part))
        else:
            items.append(f"( {part[0]}")
            waiting.append(")")
            waiting.extend(part[:0:-1])
    return " ".join(items)


def leaf_text(leaf):
    """The one item of the text of a leaf."""
    if len(leaf) == 1:
        return leaf[0]
    return f"?{leaf[1]}" if leaf[0] == "flag" else str(leaf[1])


def read_term(text):
    """The term whose text this is."""
    if not isinstance(text, str):
        raise BadText(0, 0)
    line = Line(0, text)
    term = read_part(line, None, Ground(MOST_LEVELS, True, None, None))
    line.finish()
    return term
