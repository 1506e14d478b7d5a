"""Looking at papers that tell whether a lead holds."""

from leastequal.check_rules import shows_judged
from leastequal.checks import is_within
from leastequal.leads import Led, NotLed, sides_of
from leastequal.rules import NotTaken, Taken, Unsure


def shows_led(program, lead, value):
    """Whether a value is a right paper about whether a lead holds."""
    sides = sides_of(program, lead)
    if isinstance(value, NotLed):
        if not is_within(value.index, 0, len(sides) - 1) or not isinstance(value.paper, (NotTaken, Unsure)):
            return False
        before, behind = sides[value.index]
        return shows_judged(before, behind, program.least, value.paper)
    if not isinstance(value, Led) or not isinstance(value.papers, tuple) or len(value.papers) != len(sides):
        return False
    for (before, behind), paper in zip(sides, value.papers):
        if not isinstance(paper, Taken) or not shows_judged(before, behind, program.least, paper):
            return False
    return True
