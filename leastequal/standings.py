"""Standings of a plain truth term: what is kept between two bits when words are read from the lowest bit on.

Many standings go on at once. A column is an integer with a bit for each of them.
"""

from leastequal.checks import is_within
from leastequal.errors import BadNumber, TooMany
from leastequal.pieces import Pieces, checked_plain_truth
from leastequal.program import MOST_LEAST
from leastequal.spellings import shift_of
from leastequal.weights import weight_in

MOST_NAMES = 4
MOST_WEIGHT = 256
MOST_DEPTH = 16


def standings_of(truth, least):
    """The Standings of a plain truth term, or the error of what is passed."""
    pieces = Pieces(checked_plain_truth(truth, "truth"))
    if not is_within(least, 1, MOST_LEAST):
        raise BadNumber("least")
    if len(pieces.name_numbers()) > MOST_NAMES:
        raise TooMany("names", MOST_NAMES)
    if weight_in(pieces) > MOST_WEIGHT:
        raise TooMany("weight", MOST_WEIGHT)
    depth = max([least, *[_bits_of(row[1]) for row in pieces.rows if row[0] == "number"]])
    if depth > MOST_DEPTH:
        raise TooMany("depth", MOST_DEPTH)
    return Standings(pieces, least, depth)


def _bits_of(number):
    """The bits that a number needs without its sign."""
    return (number if number >= 0 else -number - 1).bit_length()


class Keep:
    """A piece that keeps something: its label, the numbers of its parts and, for mul and shl, its number."""

    def __init__(self, pieces, row):
        shift = shift_of(row[0])
        self.label = row[0] if shift is None else "shl"
        self.number = shift
        self.one = row[1]
        self.other = row[-1]
        self.start = 1 if self.label == "eq" else 0
        if self.label == "mul":
            self.number = pieces.factor_of(row)
            self.one = self.other = pieces.multiplied_at(row)
        self.least, self.most = self.bounds()

    def bounds(self):
        """The least and the most that it keeps."""
        if self.label == "mul":
            return (0, self.number - 1) if self.number > 0 else (self.number, 0)
        if self.label == "shl":
            return 0, (1 << self.number) - 1
        return 0, 3 if self.label == "less" else 1

    def carry(self, keep):
        """What its keep adds to its bit."""
        return keep >> (self.number - 1) if self.label == "shl" else keep & 1


def _sum_behind(number, keep, one, other):
    return (one + other + keep) // 2


def _difference_behind(number, keep, one, other):
    return 1 if one - other - keep < 0 else 0


def _negative_behind(number, keep, one, other):
    return 1 if one + keep > 0 else 0


def _product_behind(number, keep, one, other):
    return (number * one + keep) // 2


def _shift_behind(number, keep, one, other):
    return (2 * keep + one) & ((1 << number) - 1)


def _equal_behind(number, keep, one, other):
    return keep if one == other else 0


def _below_behind(number, keep, one, other):
    return keep if one == other else other


def _less_behind(number, keep, one, other):
    return 3 * (keep // 2) if one == other else 2 * other + one


BEHIND = {
    "add": _sum_behind,
    "sub": _difference_behind,
    "neg": _negative_behind,
    "mul": _product_behind,
    "shl": _shift_behind,
    "eq": _equal_behind,
    "lt": _below_behind,
    "less": _less_behind,
}


class Standings:
    """The pieces of a truth term, its guesses, and how its standings go on.

    A standing belongs to a guess, which is told by its number. A batch is a list of pairs of the number of a guess and
    a standing, all of one depth.
    """

    def __init__(self, pieces, least, depth):
        pieces.add_pairs()
        self.rows = pieces.rows
        self.whole = pieces.whole
        self.least = least
        self.depth = depth
        self.names = pieces.name_numbers()
        self.guessed = pieces.guessed_numbers()
        self.guesses = [()]
        for _ in self.guessed:
            self.guesses = [(*guess, truth) for guess in self.guesses for truth in (False, True)]
        self.keeps = {}
        for number, row in enumerate(self.rows):
            if row[0] in BEHIND or shift_of(row[0]) is not None:
                self.keeps[number] = Keep(pieces, row)
        self.start = (0, *[self.keeps[number].start for number in self.keeps])
        self.apart = [(pieces.numbers[one], pieces.numbers[other]) for one, other in pieces.read_pairs()]
        self.addresses = [address for address, _ in pieces.reads]
        self.read_names = [name for _, name in pieces.reads]
        self.terms = pieces.as_terms()

    def is_standing(self, value):
        """Whether a value is a standing."""
        if not isinstance(value, tuple) or len(value) != len(self.start) or not is_within(value[0], 0, self.depth):
            return False
        keeps = list(self.keeps.values())
        return all([is_within(one, keep.least, keep.most) for one, keep in zip(value[1:], keeps)])

    def behind(self, batch):
        """For each pair of a batch the standings that the letters make of it, a list with one for each letter."""
        many = 1 << len(self.names)
        depth = min(batch[0][1][0] + 1, self.depth)
        columns = self.bit_columns(batch, many)
        made = [[] for _ in batch]
        for index, (_, standing) in enumerate(batch):
            for bit in range(index * many, (index + 1) * many):
                made[index].append((depth, *self.keeps_behind(standing, columns, bit)))
        return made

    def keeps_behind(self, standing, columns, bit):
        """What is kept behind the letter to which this bit of the columns belongs."""
        kept = []
        for place, keep in enumerate(self.keeps.values()):
            action = BEHIND[keep.label]
            one = (columns[keep.one] >> bit) & 1
            other = (columns[keep.other] >> bit) & 1
            kept.append(action(keep.number, standing[place + 1], one, other))
        return kept

    def bit_columns(self, batch, many):
        """A column for each piece, with its bit behind each pair of the batch for each letter; 0 for truths."""
        every = (1 << (many * len(batch))) - 1
        depth = batch[0][1][0]
        guesses = self.guess_columns(batch, many)
        carries = self.carry_columns(batch, many)
        columns = []
        for number, row in enumerate(self.rows):
            if row[0] == "name":
                columns.append(self.letter_column(number, batch, many))
            elif row[0] == "number":
                columns.append(every if (row[1] >> depth) & 1 else 0)
            elif row[0] == "if":
                test = guesses[row[1]]
                columns.append((test & columns[row[2]]) | ((every ^ test) & columns[row[3]]))
            elif number in self.keeps:
                columns.append(self.kept_column(number, columns) ^ carries[number])
            else:
                columns.append(_bitwise(row, columns, every))
        return columns

    def kept_column(self, number, columns):
        """The bits of a piece that keeps something, without what its keep adds."""
        keep = self.keeps[number]
        if keep.label in ("add", "sub"):
            return columns[keep.one] ^ columns[keep.other]
        if keep.label == "neg" or (keep.label == "mul" and keep.number & 1):
            return columns[keep.one]
        return 0

    def letter_column(self, number, batch, many):
        """The bits that a name has in the letters, once for each pair of the batch."""
        place = self.names.index(number)
        bits = [(letter >> place) & 1 for letter in range(many)]
        return _column(bits * len(batch), 1)

    def guess_columns(self, batch, many):
        """The truths of the guessed pieces as guessed, by piece."""
        guesses = [self.guesses[number] for number, _ in batch]
        return {piece: _column([guess[place] for guess in guesses], many) for place, piece in enumerate(self.guessed)}

    def carry_columns(self, batch, many):
        """What the keeps add to the bits, by piece."""
        made = {}
        for place, number in enumerate(self.keeps):
            keep = self.keeps[number]
            made[number] = _column([keep.carry(standing[place + 1]) for _, standing in batch], many)
        return made

    def bad_in(self, batch):
        """The bad ones of a batch."""
        if batch[0][1][0] < self.least:
            return []
        every = (1 << len(batch)) - 1
        guesses = self.guess_columns(batch, 1)
        truths = self.truth_columns(guesses, self.carry_columns(batch, 1), every)
        bad = every ^ truths[self.whole]
        for number in self.guessed:
            bad &= every ^ truths[number] ^ guesses[number]
        for addresses, names in self.apart:
            bad &= (every ^ truths[addresses]) | truths[names]
        return [pair for index, pair in enumerate(batch) if (bad >> index) & 1]

    def truth_columns(self, guesses, carries, every):
        """A column for each piece, with its truth in each pair of the batch; 0 for words."""
        columns = []
        for number, row in enumerate(self.rows):
            if row[0] in ("eq", "lt", "less"):
                columns.append(carries[number])
            elif row[0] == "flag":
                columns.append(guesses[number])
            else:
                columns.append(_logical(row, columns, every))
        return columns


def _column(bits, many):
    """The column with these bits, the first one lowest, each as often as many tells."""
    ones = (1 << many) - 1
    column = 0
    for bit in bits[::-1]:
        column = (column << many) | (ones if bit else 0)
    return column


def _bitwise(row, columns, every):
    """The bits of a piece that keeps nothing, 0 for a truth."""
    if row[0] == "and":
        return columns[row[1]] & columns[row[2]]
    if row[0] == "or":
        return columns[row[1]] | columns[row[2]]
    if row[0] == "xor":
        return columns[row[1]] ^ columns[row[2]]
    return every ^ columns[row[1]] if row[0] == "flip" else 0


def _logical(row, columns, every):
    """The truths of a piece that keeps nothing, 0 for a word."""
    if row[0] == "true":
        return every
    if row[0] == "both":
        return columns[row[1]] & columns[row[2]]
    if row[0] == "either":
        return columns[row[1]] | columns[row[2]]
    return every ^ columns[row[1]] if row[0] == "no" else 0
