"""Working out the values of terms that fit."""

from leastequal.forms import is_leaf, parts_as_ended, parts_of
from leastequal.spellings import called, shift_of
from leastequal.words import action_of, mask_of

# The number of a sheet that has all results of a function.
ALL_RESULTS = -1
# So many loops are kept at most, so that a long run does not fill the machine.
MOST_KEPT = 10000


class Sheet:
    """Terms made ready to be worked out often: a row for each of their unlike parts, behind those it needs.

    The values stand in one list: those of the given leaves, the constants, and then one for each row. A row is
    (action, first, second, third), an action and the numbers of three values in the list, or (None, call, numbers, 0).
    """

    def __init__(self, given, terms, mask):
        self.mask = mask
        self.constants = []
        self.rows = []
        self.slots = {leaf: index for index, leaf in enumerate(given)}
        parts = [parts_as_ended(term) for term in terms]
        # Constants stand ahead of all rows, so they are found first.
        for some in parts:
            for part in some:
                self.keep_constants(part)
        self.many_ahead = len(self.slots)
        self.outs = [self.keep_rows(some) for some in parts]

    def keep_constants(self, part):
        """Gives a leaf that is not given, or the number in a label, its place in the list."""
        shift = shift_of(part[0])
        key = ("shl", shift)
        if shift is None and is_leaf(part):
            key = part
        elif shift is None:
            return
        if key not in self.slots:
            self.slots[key] = len(self.slots)
            self.constants.append(shift if shift is not None else _constant(part, self.mask))

    def keep_rows(self, parts):
        """Gives each part of a term, as they end, its place in the list: the place of the whole term."""
        slots = []
        for part in parts:
            first = len(slots) - len(parts_of(part))
            inner = slots[first:]
            del slots[first:]
            key = part if is_leaf(part) else (part[0], *inner)
            if key not in self.slots:
                self.slots[key] = self.many_ahead + len(self.rows)
                self.rows.append(self.row_of(part[0], inner))
            slots.append(self.slots[key])
        return slots[0]

    def row_of(self, label, slots):
        """The row of a label with parts in these places of the list."""
        call = ("at", "", 0) if label == "at" else called(label)
        if call is not None:
            return None, call, slots, 0
        action, numbers = action_of(label)
        ahead = [self.slots[("shl", number)] for number in numbers]
        one, two, three = [*ahead, *slots, 0, 0][:3]
        return action, one, two, three

    def work_out(self, given, scene):
        """The values of the terms, with values for the given leaves."""
        values = given + self.constants
        mask = self.mask
        for action, one, two, three in self.rows:
            if action is None:
                values.append(scene.reach(one, [values[slot] for slot in two]))
            else:
                values.append(action(mask, values[one], values[two], values[three]))
        return [values[slot] for slot in self.outs]


def _constant(leaf, mask):
    """The value of a leaf that is not given: a name has the value 0 then."""
    if leaf[0] == "number":
        return leaf[1] & mask
    return leaf[0] == "true" if leaf[0] in ("true", "false") else 0


class Scene:
    """Where terms are worked out: functions, rounds of loops, a width, and a memory, a dict of words."""

    def __init__(self, functions, rounds, width, memory):
        self.functions = {function.name: function for function in functions}
        self.rounds = rounds
        self.mask = mask_of(width)
        self.memory = memory
        self.sheets = {}
        self.kept = {}

    def write(self, address, worth):
        """Puts a word into the memory."""
        self.memory[address] = worth
        self.kept = {}

    def reach(self, call, values):
        """The value of a read, a call or a loop, with these values of its parts."""
        first, name, number = call
        if first == "at":
            return self.memory.get(values[0], 0)
        if first == "call":
            return self.sheet(name, number).work_out(values, self)[0]
        return self.looped(name, values)[number]

    def looped(self, name, values):
        """The last state of a loop, from a list of the count and the first state."""
        key = (name, *values)
        if key not in self.kept:
            if len(self.kept) == MOST_KEPT:
                self.kept = {}
            self.kept[key] = self.last_state(name, values)
        return self.kept[key]

    def last_state(self, name, values):
        """Works a loop out, round by round."""
        sheet = self.sheet(name, ALL_RESULTS)
        state = values[1:]
        for _ in range(min(values[0], self.rounds)):
            made = sheet.work_out(state, self)
            if made == state:
                break
            state = made
        return state

    def sheet(self, name, number):
        """The sheet of one result of a function, or of all."""
        key = (name, number)
        if key not in self.sheets:
            function = self.functions[name]
            terms = function.results if number == ALL_RESULTS else function.results[number:number + 1]
            given = [("name", parameter) for parameter in function.parameters]
            self.sheets[key] = Sheet(given, terms, self.mask)
        return self.sheets[key]
