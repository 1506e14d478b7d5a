"""Steps, and chains of them between terms that joins connect."""

from leastequal.checks import are_integers, are_pairs, is_integer, is_list, is_within
from leastequal.classes import check_classes
from leastequal.errors import BadStep, Misfit, TooMany
from leastequal.forms import checked_term, term_of
from leastequal.lines import Lines, Ways
from leastequal.papers import Denial, Paper
from leastequal.shelves import check_shelf
from leastequal.stepping import Stepping

MOST_STEPS = 10000


class Step(Paper):
    """A single step: the name of a rule, 1 or -1, a place, and what the names and flags of the rule stand for."""

    def __init__(self, rule, way, place, terms):
        Paper.__init__(self, "step", rule, way, place, terms)
        self.rule = self.parts[0]
        self.way = self.parts[1]
        self.place = self.parts[2]
        self.terms = self.parts[3]


class Use(Paper):
    """The use of an earlier link of a chain: its number, 1 or -1, and a place."""

    def __init__(self, link, way, place):
        Paper.__init__(self, "use", link, way, place)
        self.link = self.parts[0]
        self.way = self.parts[1]
        self.place = self.parts[2]


class Link(Paper):
    """A link of a chain: two terms, and the Steps and Uses that lead from the one to the other."""

    def __init__(self, one, other, steps):
        Paper.__init__(self, "link", one, other, steps)
        self.one = self.parts[0]
        self.other = self.parts[1]
        self.steps = self.parts[2]


class Chain(Paper):
    """A chain from one term to another: links, the last of which tells these terms."""

    def __init__(self, links):
        Paper.__init__(self, "chain", links)
        self.links = self.parts[0]


class Apart(Denial):
    """No chain is possible: groups of terms, two of which have the given terms."""

    def __init__(self, groups):
        Denial.__init__(self, "apart", groups)
        self.groups = self.parts[0]


def done(shelf, term, step):
    """The term that a step makes of a term."""
    check_shelf(shelf)
    whole = checked_term(term, "term")
    if not isinstance(step, Step):
        raise BadStep("step")
    return _done(Stepping(shelf), whole, step)


def after(shelf, term, steps):
    """The last of the terms that steps make of a term, one behind another."""
    check_shelf(shelf)
    whole = checked_term(term, "term")
    if not is_list(steps) or not all([isinstance(step, Step) for step in steps]):
        raise BadStep("steps")
    stepping = Stepping(shelf)
    for step in steps:
        whole = _done(stepping, whole, step)
    return whole


def _done(stepping, term, step):
    wrong, made = stepping.made(term, step)
    if wrong == "step":
        raise Misfit("step")
    if wrong is not None:
        raise BadStep(wrong)
    return made


def moment(classes, one, other):
    """How many of the first joins of the record connect two terms; None if all of them do not."""
    return _lines_of(classes, one, other).moment


def _lines_of(classes, one, other):
    check_classes(classes, "classes")
    first = checked_term(one, "one")
    second = checked_term(other, "other")
    return Lines(classes.record, first, second)


def chain(classes, one, other):
    """A Chain between two terms that the joins of the record connect; otherwise the Apart of the groups."""
    lines = _lines_of(classes, one, other)
    if lines.moment is None:
        return Apart(lines.in_groups())
    reasons = [join[2] for join in classes.record[:lines.moment]]
    if not all([_is_reason(why) for why in reasons]):
        raise BadStep("why")
    ways = Ways(lines)
    last = [(line, way, ()) for line, way in ways.between(lines.one, lines.other)]
    exchanges = _exchanges_needed(lines, ways, last)
    numbers = {line: number for number, line in enumerate(sorted(exchanges))}
    terms = lines.all_terms()
    rows = [(*lines.found[line][:2], exchanges[line]) for line in sorted(exchanges)]
    rows.append((lines.one, lines.other, last))
    links = []
    for first, second, some in rows:
        steps = [_step_along(lines.found[line][2], numbers.get(line), way, place, reasons) for line, way, place in some]
        links.append(Link(terms[first], terms[second], steps))
    return Chain(links)


def _exchanges_needed(lines, ways, last):
    """By line: the exchanges of all lines by parts which the last link, or another needed line, goes along."""
    needed = {}
    waiting = [line for line, _, _ in last]
    while waiting:
        line = waiting.pop()
        if line not in needed and lines.found[line][2] is None:
            needed[line] = ways.exchanges(line)
            waiting.extend([inner for inner, _, _ in needed[line]])
    return needed


def _step_along(join, number, way, place, reasons):
    """The Step by a join, or the Use of the link of this number, which leads along a line."""
    if join is None:
        return Use(number, way, place)
    rule, its_way, terms = reasons[join]
    return Step(rule, way * its_way, place, terms)


def _is_reason(why):
    if not isinstance(why, tuple) or len(why) != 3 or not isinstance(why[0], str) or not _is_way(why[1]):
        return False
    return are_pairs(why[2]) and all([isinstance(key, str) and term_of(term) is not None for key, term in why[2]])


def _is_way(value):
    return is_integer(value) and value in (1, -1)


def is_chain(value):
    """Whether any value is a Chain of Links with terms, ways, places and numbers as they are told."""
    if not isinstance(value, Chain) or not isinstance(value.links, tuple) or len(value.links) == 0:
        return False
    return all([_is_link(link, number) for number, link in enumerate(value.links)])


def _is_link(value, number):
    if not isinstance(value, Link) or term_of(value.one) is None or term_of(value.other) is None:
        return False
    return isinstance(value.steps, tuple) and all([_is_in_link(step, number) for step in value.steps])


def _is_in_link(value, number):
    if not isinstance(value, (Step, Use)) or not _is_way(value.way) or not are_integers(value.place, 0, None):
        return False
    return isinstance(value, Step) or is_within(value.link, 0, number - 1)


def many_steps(chain):
    """How many plain steps a Chain has."""
    return _counts_of(chain)[-1]


def _counts_of(value):
    """By link: how many plain steps it has."""
    if not is_chain(value):
        raise BadStep("chain")
    counts = []
    for link in value.links:
        counts.append(sum([1 if isinstance(step, Step) else counts[step.link] for step in link.steps]))
    return counts


def plain_steps(chain):
    """The plain steps of a Chain."""
    counts = _counts_of(chain)
    if counts[-1] > MOST_STEPS:
        raise TooMany("steps", MOST_STEPS)
    steps = []
    waiting = [(step, (), 1) for step in chain.links[-1].steps[::-1]]
    while waiting:
        step, place, way = waiting.pop()
        whole = place + step.place
        if isinstance(step, Step):
            steps.append(Step(step.rule, step.way * way, whole, step.terms))
        elif counts[step.link] > 0:
            # What waits last is taken first, so the steps stand there in reverse order.
            inner = chain.links[step.link].steps
            waiting.extend([(one, whole, step.way * way) for one in (inner[::-1] if step.way * way == 1 else inner)])
    return tuple(steps)
