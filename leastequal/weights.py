"""The weight of a plain truth term."""

from leastequal.spellings import shift_of

# How many times 2 is a factor of what a piece with this label weighs.
TWOS = {"add": 1, "sub": 1, "neg": 1, "eq": 1, "lt": 1, "less": 2}


def weight_in(pieces):
    """The product of the weights of all pieces, the pairs of reads among them, which need not be added yet."""
    weight = 1
    # Twos are counted, as the pairs of many reads would take long to multiply.
    twos = len(pieces.guessed_numbers()) + _many_new_pairs(pieces)
    for row in pieces.rows:
        shift = shift_of(row[0])
        twos += TWOS.get(row[0], 0) if shift is None else shift
        if row[0] == "mul":
            factor = pieces.factor_of(row)
            weight *= factor if factor > 0 else 1 - factor
    return weight << twos


def _many_new_pairs(pieces):
    """How many pieces the pairs of reads add to those of the parts."""
    by_address = {address: index for index, (address, _) in enumerate(pieces.reads)}
    by_name = {name: index for index, (_, name) in enumerate(pieces.reads)}
    old = [row for row in pieces.rows if row[0] == "eq" and (_are_rising(by_address, row) or _are_rising(by_name, row))]
    # Where reads have reads as addresses, a pair of addresses may be a pair of new names.
    both = _many_rising([by_name[address] for address, _ in pieces.reads if address in by_name])
    many = len(pieces.reads)
    return many * (many - 1) - both - len(old)


def _are_rising(indexes, row):
    """Whether both parts of a row belong to reads, the first one to an earlier read."""
    return row[1] in indexes and row[2] in indexes and indexes[row[1]] < indexes[row[2]]


def _many_rising(numbers):
    """How many pairs of unlike numbers stand in ascending order."""
    found = 0
    ahead = []
    for number in numbers:
        below = _many_below(ahead, number)
        found += below
        ahead.insert(below, number)
    return found


def _many_below(ascending, number):
    """How many of some ascending numbers are below a number."""
    low, high = 0, len(ascending)
    while low < high:
        middle = (low + high) // 2
        if ascending[middle] < number:
            low = middle + 1
        else:
            high = middle
    return low
