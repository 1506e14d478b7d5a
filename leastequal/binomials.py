"""Polynomials told as sums of products of binomials, which show where a polynomial is no multiple of a power of 2."""

FIRST_BITS = 64


def exponents_of(product):
    """The pairs of the factors of a product, ascending, and how often each of them is one."""
    found = []
    for factor in product:
        if found and found[-1][0] == factor:
            found[-1] = (factor, found[-1][1] + 1)
        else:
            found.append((factor, 1))
    return found


def many_binomials(polynomial):
    """So many products of binomials come of the products of a polynomial, at most."""
    total = 0
    for product in polynomial:
        many = 1
        for _, exponent in exponents_of(product):
            many *= exponent
        total += many
    return total


def parting_of(polynomial, names, least):
    """The least width, from least on, at which a polynomial that is not 0 is 0 for not all words, and the least words.

    names are the factors of the polynomial, ascending, perhaps with others between. The words are told by name.
    """
    shift = min([_twos_in(many) for many in polynomial.values()])
    odd = {product: many >> shift for product, many in polynomial.items()}
    bits = FIRST_BITS
    found = _binomials(odd, names, bits)
    while not found:
        bits *= 2
        found = _binomials(odd, names, bits)
    twos = {key: shift + _twos_in(many) for key, many in found.items()}
    width = max(least, 1 + min(list(twos.values())))
    words = {-place: word for place, word in min([key for key in twos if twos[key] < width])}
    return width, tuple([(name, words.get(place, 0)) for place, name in enumerate(names)])


def _twos_in(number):
    """How often 2 is a factor of a number that is not 0."""
    return (number & -number).bit_length() - 1


def _binomials(polynomial, names, bits):
    """By key: how often each product of binomials is taken, modulo 2 to the power of bits, where it is not 0.

    A key has a pair for each name x that the product has, in their order: the place of x among the names, below 0, and
    the i of C(x, i). So keys compare as the tuples of all i do.
    """
    places = {name: place for place, name in enumerate(names)}
    rows = _rows_of(polynomial, bits)
    mask = (1 << bits) - 1
    found = {}
    for product, many in polynomial.items():
        exponents = exponents_of(product)
        for chosen, times in _choices(exponents, many, rows, mask):
            key = tuple([(-places[name], chosen.get(name, 1)) for name, _ in exponents])
            found[key] = (found.get(key, 0) + times) & mask
    return {key: found[key] for key in found if found[key] != 0}


def _choices(exponents, many, rows, mask):
    """The choices of an i for each name with an exponent above 1, and what comes of each of them."""
    choices = [({}, many & mask)]
    for name, exponent in exponents:
        if exponent > 1:
            row = rows[exponent]
            choices = [
                ({**chosen, name: i}, times * row[i] & mask)
                for chosen, times in choices
                for i in range(1, len(row))
                if times * row[i] & mask
            ]
    return choices


def _rows_of(polynomial, bits):
    """By exponent: the integers, modulo 2 to the power of bits, by which x to this power is a sum of C(x, i).

    C(x, i) is taken a multiple of i! times there, so from some i on it is taken 0 times.
    """
    wanted = {exponent for product in polynomial for _, exponent in exponents_of(product)}
    mask = (1 << bits) - 1
    end = bits + bits.bit_length() + 1
    rows = {}
    row = [1]
    for exponent in range(1, max(sorted(wanted), default=0) + 1):
        ahead = [*row, 0]
        # x C(x, i) is i C(x, i) + (i + 1) C(x, i + 1).
        row = [0] + [i * (ahead[i] + ahead[i - 1]) & mask for i in range(1, min(exponent, end) + 1)]
        if exponent in wanted:
            rows[exponent] = row
    return rows
