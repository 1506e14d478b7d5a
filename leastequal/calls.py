"""What calls, labels over numbers, and loops over numbers are equal to."""

from leastequal.errors import Misfit
from leastequal.forms import checked_term, is_number, many_parts
from leastequal.program import check_program, is_fit
from leastequal.rules import MOST_SIZE, Rule
from leastequal.spellings import called, shift_of


def call_rules(program):
    """The call rules of a program, by functions, then by results."""
    check_program(program)
    rules = []
    for function in program.functions:
        parts = [("name", parameter) for parameter in function.parameters]
        for index, result in enumerate(function.results):
            if many_parts(result) <= MOST_SIZE:
                label = f"call {function.name} {index}"
                rules.append(Rule(label, (label, *parts), result, 1))
    return tuple(rules)


def folded(term):
    """The number to which a term folds."""
    number = fold_of(checked_term(term, "term"))
    if number is None:
        raise Misfit("fold")
    return number


def fold_of(term):
    """The number to which a term folds, None if it does not."""
    parts = term[1:]
    if not is_fold_label(term[0]) or not all([part[0] == "number" for part in parts]):
        return None
    made = _worked(term[0], [part[1] for part in parts])
    return ("number", made) if is_number(made) else None


def is_fold_label(label):
    """Whether terms with this label may fold."""
    return label in TWO_PARTS or label in ("neg", "flip") or shift_of(label) is not None


def _worked(label, numbers):
    if label == "neg":
        return -numbers[0]
    if label == "flip":
        return ~numbers[0]
    shift = shift_of(label)
    if shift is not None:
        return numbers[0] << shift
    action = TWO_PARTS[label]
    return action(numbers[0], numbers[1])


def _added(one, two):
    return one + two


def _less_of(one, two):
    return one - two


def _times(one, two):
    return one * two


def _bits_in_both(one, two):
    return one & two


def _bits_in_any(one, two):
    return one | two


def _bits_in_one(one, two):
    return one ^ two


TWO_PARTS = {
    "add": _added,
    "sub": _less_of,
    "mul": _times,
    "and": _bits_in_both,
    "or": _bits_in_any,
    "xor": _bits_in_one,
}


def turned(program, term):
    """What a loop over a number turns to."""
    check_program(program)
    made = turn_of(program, checked_term(term, "term"))
    if made is None:
        raise Misfit("loop")
    return made


def turn_of(program, term):
    """What a loop over a number turns to, None for a term that does not turn."""
    call = called(term[0])
    if call is None or call[0] != "loop" or term[1][0] != "number":
        return None
    count = term[1][1]
    if not 0 <= count <= most_turns(program) or not is_fit(program.functions, term):
        return None
    state = term[2:]
    if count == 0:
        return state[call[2]]
    calls = [(f"call {call[1]} {index}", *state) for index in range(len(state))]
    return (term[0], ("number", count - 1), *calls)


def most_turns(program):
    """The greatest number of rounds that a loop may have and still turn."""
    # From the least width on, a count up to this one is the same word at every width.
    return min(program.rounds, (1 << program.least) - 1)
