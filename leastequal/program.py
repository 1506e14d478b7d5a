"""Functions and programs."""

from leastequal.checks import first_twice, is_list, is_within
from leastequal.deeds import deeds_of, program_term_of, terms_in, with_terms_in
from leastequal.errors import BadNumber, BadProgram, BadTerm, Misfit, NoFunction, Twice
from leastequal.forms import checked_term, kind_of, parts_as_begun, parts_of, spellings_in, term_of
from leastequal.spellings import called, is_name

MOST_NAMES = 6
MOST_RESULTS = 6
MOST_FUNCTIONS = 8
MOST_LEAST = 8
MOST_ROUNDS = 1000


class Function:
    """A function: a name, parameters, and results over these."""

    def __init__(self, name, parameters, results):
        if not is_name(name):
            raise BadProgram("name")
        if not _are_names(parameters):
            raise BadProgram("parameters")
        twice = first_twice(parameters)
        if twice is not None:
            raise Twice(twice)
        made = _results_of(results, parameters)
        if made is None:
            raise BadProgram("results")
        self.name = name
        self.parameters = tuple(parameters)
        self.results = made

    def __eq__(self, other):
        if not isinstance(other, Function) or self.name != other.name:
            return False
        return self.parameters == other.parameters and self.results == other.results


class Program:
    """A program: a least width, rounds of loops, functions, inputs and deeds."""

    def __init__(self, least, rounds, functions, inputs, deeds):
        if not is_within(least, 1, MOST_LEAST):
            raise BadNumber("least")
        if not is_within(rounds, 0, MOST_ROUNDS):
            raise BadNumber("rounds")
        if not _are_functions(functions) or len(functions) > MOST_FUNCTIONS:
            raise BadProgram("functions")
        if not _are_names(inputs):
            raise BadProgram("inputs")
        made = deeds_of(deeds)
        if made is None:
            raise BadProgram("deeds")
        for names in ([function.name for function in functions], inputs):
            twice = first_twice(names)
            if twice is not None:
                raise Twice(twice)
        _check_calls(functions, made)
        self.least = least
        self.rounds = rounds
        self.functions = tuple(functions)
        self.inputs = tuple(inputs)
        self.deeds = made

    def __eq__(self, other):
        if not isinstance(other, Program) or self.least != other.least or self.rounds != other.rounds:
            return False
        return self.functions == other.functions and self.inputs == other.inputs and self.deeds == other.deeds


def _are_names(value):
    return is_list(value) and len(value) <= MOST_NAMES and all([is_name(one) for one in value])


def _are_functions(value):
    return is_list(value) and all([isinstance(one, Function) for one in value])


def _results_of(value, parameters):
    """The results that a value is, for these parameters; None for any other value."""
    if not is_list(value) or not 1 <= len(value) <= MOST_RESULTS:
        return None
    made = [program_term_of(one, "word") for one in value]
    if None in made:
        return None
    names = [name for one in made for name in spellings_in(one, "name")]
    return tuple(made) if all([name in parameters for name in names]) else None


def _check_calls(functions, deeds):
    """Raises the error of the first term that has a call or a loop which it may not have."""
    for index, function in enumerate(functions):
        for result in function.results:
            check_fits(functions[:index], result)
    for term in terms_in(deeds):
        check_fits(functions, term)


def check_fits(functions, term):
    """Raises what is wrong with the calls and loops of a term."""
    wrong = _first_unfit(functions, term)
    if wrong is not None and wrong[0] == "function":
        raise NoFunction(wrong[1])
    if wrong is not None:
        raise Misfit("call")


def _first_unfit(functions, term):
    by_name = {function.name: function for function in functions}
    parts = [part for part in parts_as_begun(term) if called(part[0]) is not None]
    for part in parts:
        name = called(part[0])[1]
        if name not in by_name:
            return "function", name
    for part in parts:
        if not _fits(by_name[called(part[0])[1]], part):
            return "call", part[0]
    return None


def _fits(function, part):
    """Whether a call or a loop of a function fits."""
    first, _, number = called(part[0])
    wanted = len(function.parameters)
    if first == "loop":
        if len(function.results) != wanted:
            return False
        wanted += 1
    return number < len(function.results) and len(parts_of(part)) == wanted


def is_fit(functions, part):
    """Whether a call or a loop, whatever its parts are, is of one of these functions and fits."""
    found = [function for function in functions if function.name == called(part[0])[1]]
    return bool(found) and _fits(found[0], part)


def unfit(functions, term):
    """What is wrong with the calls and loops of a term: ("function", name) or ("call", label); None if they fit."""
    if not _are_functions(functions) or first_twice([function.name for function in functions]) is not None:
        raise BadProgram("functions")
    return _first_unfit(functions, checked_term(term, "term"))


def check_program(program):
    """Raises BadProgram for what is no Program."""
    if not isinstance(program, Program):
        raise BadProgram("program")


def terms_of(program):
    """All terms of a program: the results of its functions, then those of its deeds."""
    check_program(program)
    results = [result for function in program.functions for result in function.results]
    return (*results, *terms_in(program.deeds))


def with_terms(program, terms):
    """The program with other terms in the place of its own."""
    old = terms_of(program)
    if not is_list(terms) or len(terms) != len(old):
        raise BadTerm("terms")
    made = [term_of(term) for term in terms]
    if not all([new is not None and kind_of(new) == kind_of(one) for new, one in zip(made, old)]):
        raise BadTerm("terms")
    waiting = made[::-1]
    functions = []
    for function in program.functions:
        results = [waiting.pop() for _ in function.results]
        functions.append(Function(function.name, function.parameters, results))
    return Program(program.least, program.rounds, functions, program.inputs, with_terms_in(program.deeds, waiting))
