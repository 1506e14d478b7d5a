"""Whether a plain truth term holds at every width from a least one on, whatever its names, flags and memory are."""

from leastequal.papers import Denial, Paper
from leastequal.pieces import Pieces, checked_plain_truth
from leastequal.sheets import Sheet
from leastequal.standings import standings_of
from leastequal.weights import weight_in
from leastequal.words import mask_of


class Holds(Paper):
    """The truth holds: for each guess the standings that are reached, none of them bad."""

    def __init__(self, tables):
        Paper.__init__(self, "holds", tables)
        self.tables = self.parts[0]


class Fails(Denial):
    """The truth does not hold: it is False at this width for these words, truths and memory."""

    def __init__(self, width, names, flags, memory):
        Denial.__init__(self, "fails", width, names, flags, memory)
        self.width = self.parts[0]
        self.names = self.parts[1]
        self.flags = self.parts[2]
        self.memory = self.parts[3]


def weight_of(truth):
    """The weight of a plain truth term."""
    return weight_in(Pieces(checked_plain_truth(truth, "truth")))


def holds(truth, least):
    """The Holds of a truth, or a Fails at the least width at which it is False for any words."""
    standings = standings_of(truth, least)
    # By guess: from which standing, and by which letter, a standing is reached first.
    ways = [{standings.start: None} for _ in standings.guesses]
    batch = [(number, standings.start) for number in range(len(ways))]
    # All of a batch are reached by equally many letters at least, so the first bad one has the least width.
    while batch:
        bad = standings.bad_in(batch)
        if bad:
            return _fails(standings, bad[0], ways[bad[0][0]])
        batch = _next_batch(standings, batch, ways)
    return Holds([(guess, sorted(found)) for guess, found in zip(standings.guesses, ways)])


def _next_batch(standings, batch, ways):
    """What the letters make of a batch and was not reached before."""
    made = []
    for (number, standing), found in zip(batch, standings.behind(batch)):
        for letter, reached in enumerate(found):
            if reached not in ways[number]:
                ways[number][reached] = (standing, letter)
                made.append((number, reached))
    return made


def _fails(standings, pair, ways):
    """The Fails of a guess and a bad standing."""
    number, standing = pair
    letters = []
    while ways[standing] is not None:
        standing, letter = ways[standing]
        letters.append(letter)
    words = _words_of(letters[::-1], len(standings.names))
    given = {standings.terms[name]: word for name, word in zip(standings.names, words)}
    guess = list(zip(standings.guessed, standings.guesses[number]))
    flags = {standings.terms[piece]: truth for piece, truth in guess if standings.terms[piece][0] == "flag"}
    names = sorted([(leaf[1], given[leaf]) for leaf in given if not leaf[1].startswith("#")])
    memory = _memory_of(standings, given, flags, len(letters))
    return Fails(len(letters), names, sorted([(leaf[1], flags[leaf]) for leaf in flags]), memory)


def _words_of(letters, many):
    """The words whose bits the letters tell, the lowest ones first."""
    words = [0] * many
    for index, letter in enumerate(letters):
        for place in range(many):
            words[place] |= ((letter >> place) & 1) << index
    return words


def _memory_of(standings, given, flags, width):
    """The words, other than 0, at the addresses of the reads, ascending."""
    told = {**given, **flags}
    terms = [standings.terms[address] for address in standings.addresses]
    addresses = Sheet(list(told), terms, mask_of(width)).work_out(list(told.values()), None)
    memory = {}
    for address, name in zip(addresses, standings.read_names):
        memory[address] = given[standings.terms[name]]
    return sorted([(address, memory[address]) for address in memory if memory[address] != 0])
