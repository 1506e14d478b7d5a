"""Reading terms from the items of a line. The first item that cannot stand is told by BadText."""

from leastequal.errors import BadText
from leastequal.forms import bounds_of, is_number
from leastequal.spellings import RESULT_NUMBERS, integer_of, is_name, is_spelling
from leastequal.words import shape_of


class Line:
    """The items of one line of a text, and the number of those that are read."""

    def __init__(self, number, text):
        self.number = number
        self.rows = text.split(" ")
        self.place = 0

    def now(self):
        """The next item, None if there is none."""
        return self.rows[self.place] if self.place < len(self.rows) else None

    def step(self):
        """Goes behind the next item, which can stand."""
        self.place += 1

    def refuse(self):
        """Tells that the next item cannot stand, or is missing."""
        raise BadText(self.number, self.place)

    def finish(self):
        """Refuses an item that is left."""
        if self.place < len(self.rows):
            self.refuse()

    def refuse_last(self):
        """Tells that the last item cannot stand, as only the whole shows a fault."""
        raise BadText(self.number, len(self.rows) - 1)


class Ground:
    """What may stand in the terms that are read, besides their form.

    names is a tuple of those that may stand, functions a list of Functions; None for any.
    """

    def __init__(self, levels, has_flags, names, functions):
        self.levels = levels
        self.has_flags = has_flags
        self.names = names
        self.functions = functions


class Frame:
    """A term that is begun and not ended: its label, what its parts are, and those that are read."""

    def __init__(self, label, kinds, least):
        self.label = label
        self.kinds = kinds
        self.least = least
        self.parts = []

    def may_end(self):
        """Whether no part is missing."""
        return len(self.parts) >= self.least

    def has_room(self):
        """Whether a part may follow."""
        return len(self.parts) < len(self.kinds)

    def wanted(self):
        """What the next part is."""
        return self.kinds[len(self.parts)]


def read_part(line, kind, ground):
    """Reads one term of this kind, None for any, and goes behind it."""
    frames = []
    while True:
        made = None
        if frames and frames[-1].may_end() and line.now() == ")":
            line.step()
            frame = frames.pop()
            made = (frame.label, *frame.parts)
        else:
            wanted = _wanted(line, frames, kind, ground)
            if line.now() == "(":
                frames.append(_frame(line, wanted, ground))
            else:
                made = _leaf(line, wanted, ground)
        if made is not None and not frames:
            return made
        if made is not None:
            frames[-1].parts.append(made)


def _wanted(line, frames, kind, ground):
    """What the term must be that the next item begins, if one may begin here."""
    if len(frames) >= ground.levels or (frames and not frames[-1].has_room()):
        line.refuse()
    return frames[-1].wanted() if frames else kind


def _leaf(line, wanted, ground):
    item = line.now()
    made = None if item is None else _leaf_of(item, ground)
    if made is None or wanted not in (None, made[0]):
        line.refuse()
    line.step()
    return made[1]


def _leaf_of(item, ground):
    """The kind of the leaf that an item writes, and the leaf; None if it writes none that may stand."""
    if item in ("true", "false"):
        return "truth", (item,)
    if item.startswith("?") and is_spelling(item[1:]):
        return ("truth", ("flag", item[1:])) if ground.has_flags else None
    if is_name(item):
        return ("word", ("name", item)) if ground.names is None or item in ground.names else None
    number = integer_of(item)
    return ("word", ("number", number)) if is_number(number) else None


def _frame(line, wanted, ground):
    """Reads the sign that begins a term with a label, and the items of its label."""
    line.step()
    first = line.now()
    if first in ("call", "loop"):
        if wanted == "truth":
            line.refuse()
        line.step()
        return _call_frame(line, first, ground)
    if first == "shl":
        return _shift_frame(line, wanted)
    shape = shape_of(first)
    if shape is None or wanted not in (None, shape[0]):
        line.refuse()
    line.step()
    return Frame(first, shape[1], len(shape[1]))


def _shift_frame(line, wanted):
    if wanted == "truth":
        line.refuse()
    line.step()
    label = f"shl {line.now()}"
    shape = shape_of(label)
    if shape is None:
        line.refuse()
    line.step()
    return Frame(label, shape[1], len(shape[1]))


def _call_frame(line, first, ground):
    """Reads the second and the third item of the label of a call or a loop."""
    name = line.now()
    if not is_spelling(name):
        line.refuse()
    function = _function_named(line, name, ground)
    line.step()
    number = line.now()
    if number not in RESULT_NUMBERS or not _can_tell(function, first, int(number)):
        line.refuse()
    line.step()
    least, most = bounds_of(first)
    if function is not None:
        least = most = len(function.parameters) + (1 if first == "loop" else 0)
    return Frame(f"{first} {name} {number}", ("word",) * most, least)


def _function_named(line, name, ground):
    """The function of this name, None where any may stand."""
    if ground.functions is None:
        return None
    found = [function for function in ground.functions if function.name == name]
    if not found:
        line.refuse()
    return found[0]


def _can_tell(function, first, number):
    """Whether a function, None for any, has the result of this number, and as it is called or looped."""
    if function is None:
        return True
    if first == "loop" and len(function.results) != len(function.parameters):
        return False
    return number < len(function.results)
