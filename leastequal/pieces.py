"""Plain terms, and the pieces of plain truth terms."""

from leastequal.errors import BadTerm
from leastequal.forms import is_leaf, kind_of, parts_as_ended, parts_of, term_of
from leastequal.spellings import shift_of

PLAIN = {
    "number": True,
    "name": True,
    "flag": True,
    "true": True,
    "false": True,
    "add": True,
    "sub": True,
    "neg": True,
    "flip": True,
    "and": True,
    "or": True,
    "xor": True,
    "if": True,
    "at": True,
    "eq": True,
    "lt": True,
    "less": True,
    "both": True,
    "either": True,
    "no": True,
}


def has_plain_labels(term):
    """Whether a term is plain."""
    return all([_is_plain_part(part) for part in parts_as_ended(term)])


def _is_plain_part(part):
    if part[0] == "mul":
        return part[1][0] == "number" or part[2][0] == "number"
    return part[0] in PLAIN or shift_of(part[0]) is not None


def checked_plain(value, part):
    """The plain term that a value is, in tuples alone: BadTerm(part) for any other value."""
    term = term_of(value)
    if term is None or not has_plain_labels(term):
        raise BadTerm(part)
    return term


def checked_plain_truth(value, part):
    """The plain truth term that a value is, in tuples alone: BadTerm(part) for any other value."""
    term = checked_plain(value, part)
    if kind_of(term) != "truth":
        raise BadTerm(part)
    return term


class Pieces:
    """The pieces of a plain truth term that come of its parts, and its reads.

    A piece is a row: a leaf, or a label and the numbers of the rows of its parts. A read is a pair of the number of
    its address and the number of its new name.
    """

    def __init__(self, truth):
        self.rows = []
        self.numbers = {}
        self.reads = []
        slots = []
        for part in parts_as_ended(truth):
            first = len(slots) - len(parts_of(part))
            inner = slots[first:]
            del slots[first:]
            slots.append(self.number_of(part, inner))
        self.whole = slots[0]

    def number_of(self, part, inner):
        """The number of the piece that comes of a part, its own parts having these numbers."""
        if is_leaf(part):
            return self.number_of_row(part)
        if part[0] != "at":
            return self.number_of_row((part[0], *inner))
        key = ("at", inner[0])
        if key not in self.numbers:
            self.numbers[key] = self.number_of_row(("name", f"#{len(self.reads)}"))
            self.reads.append((inner[0], self.numbers[key]))
        return self.numbers[key]

    def number_of_row(self, row):
        """The number of a row, a new one if it stands nowhere yet."""
        if row not in self.numbers:
            self.numbers[row] = len(self.rows)
            self.rows.append(row)
        return self.numbers[row]

    def read_pairs(self):
        """The rows that say of each two reads whether their addresses, and whether their words, are equal."""
        found = []
        for index, (address, name) in enumerate(self.reads):
            for other_address, other_name in self.reads[:index]:
                found.append((("eq", other_address, address), ("eq", other_name, name)))
        return found

    def add_pairs(self):
        """Puts the pieces of the pairs of reads behind those of the parts."""
        for addresses, names in self.read_pairs():
            self.number_of_row(addresses)
            self.number_of_row(names)

    def as_terms(self):
        """The pieces as terms."""
        made = []
        for row in self.rows:
            made.append(row if is_leaf(row) else (row[0], *[made[number] for number in row[1:]]))
        return made

    def guessed_numbers(self):
        """The numbers of the guessed pieces, ascending."""
        flags = [number for number, row in enumerate(self.rows) if row[0] == "flag"]
        return sorted(set(flags + [row[1] for row in self.rows if row[0] == "if"]))

    def name_numbers(self):
        """The numbers of the names, those of reads among them, ascending."""
        return [number for number, row in enumerate(self.rows) if row[0] == "name"]

    def factor_of(self, row):
        """The number by which a row with the label mul multiplies."""
        return self.rows[self.factor_at(row)][1]

    def factor_at(self, row):
        """The number of the row of this number."""
        return row[2] if self.rows[row[2]][0] == "number" else row[1]

    def multiplied_at(self, row):
        """The number of the row that a row with the label mul multiplies."""
        return row[1] if self.rows[row[2]][0] == "number" else row[2]
