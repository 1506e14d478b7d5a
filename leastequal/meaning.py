"""The values of terms, and the results of functions, for a program, a width, words and a memory."""

from leastequal.checks import are_integers
from leastequal.errors import BadInput, NoFunction, NoName
from leastequal.forms import checked_term, spellings_in
from leastequal.given import check_least, checked_values, checked_words, memory_at
from leastequal.program import check_fits, check_program
from leastequal.sheets import ALL_RESULTS, Scene, Sheet
from leastequal.words import check_width


def value(program, term, width, names, memory):
    """The value of a term: a word or a truth."""
    check_program(program)
    whole = checked_term(term, "term")
    check_width(width)
    told = checked_values(names, "names")
    words = checked_words(memory, "memory")
    check_least(program, width)
    check_fits(program.functions, whole)
    leaves = _leaves_of(whole)
    missing = [leaf[1] for leaf in leaves if leaf not in told]
    if missing:
        raise NoName(min(missing))
    scene = Scene(program.functions, program.rounds, width, memory_at(words, width))
    given = [told[leaf] & scene.mask if leaf[0] == "name" else told[leaf] for leaf in leaves]
    return Sheet(leaves, [whole], scene.mask).work_out(given, scene)[0]


def _leaves_of(term):
    """The names, then the flags of a term, each once."""
    names = [("name", spelling) for spelling in spellings_in(term, "name")]
    return names + [("flag", spelling) for spelling in spellings_in(term, "flag")]


def results(program, name, width, words, memory):
    """The values of all results of a function, its parameters having these words."""
    check_program(program)
    found = [function for function in program.functions if isinstance(name, str) and function.name == name]
    if not found:
        raise NoFunction(name)
    check_width(width)
    if not are_integers(words, None, None) or len(words) != len(found[0].parameters):
        raise BadInput("words")
    kept = checked_words(memory, "memory")
    check_least(program, width)
    scene = Scene(program.functions, program.rounds, width, memory_at(kept, width))
    given = [number & scene.mask for number in words]
    return tuple(scene.sheet(name, ALL_RESULTS).work_out(given, scene))
