"""The first terms of all classes of a web: of the members of the least size the one with the least text."""

from heapq import heappop, heappush

from leastequal.forms import is_leaf
from leastequal.term_texts import leaf_text


class Firsts:
    """By the head of a class: its first term, with its size and its levels."""

    def __init__(self, web):
        self.web = web
        self.sizes = {}
        self.best = {}
        self.terms = {}
        self.levels = {}
        self.settle()
        # A class is settled behind the classes of the parts of its node, so their terms are there already.
        for head, index in self.best.items():
            self.make_term(head, web.rows[index])

    def settle(self):
        """Finds the least size of a member of each class, and the node of the first term."""
        waiting, users = _users_of(self.web)
        ready = sorted([(1, index) for index in waiting if waiting[index] == 0])
        while ready:
            size, index = heappop(ready)
            head = self.web.heads[self.web.homes[index]]
            if head in self.sizes:
                # All members of lesser sizes are settled, so those of parts are compared by their first terms.
                if self.sizes[head] == size and self.is_ahead(index, self.best[head]):
                    self.best[head] = index
                continue
            self.sizes[head] = size
            self.best[head] = index
            for user in users.get(head, []):
                waiting[user] -= 1
                if waiting[user] == 0:
                    heappush(ready, (self.size_by(user), user))

    def size_by(self, index):
        """The least size of a member by a node whose parts are settled."""
        return 1 + sum([self.sizes[part] for part in _parts_of(self.web.rows[index])])

    def is_ahead(self, index, other):
        """Whether the text of the first term by a node is below that by another one of the same size."""
        one, two = self.items_by(index)[::-1], self.items_by(other)[::-1]
        while True:
            first, second = one.pop(), two.pop()
            if isinstance(first, str) and isinstance(second, str):
                if first != second:
                    # No item of a text holds a blank, so items compare with it as texts do.
                    return first + " " < second + " "
            elif isinstance(first, str):
                one.append(first)
                two.extend(self.items_of(second)[::-1])
            elif first != second:
                one.extend(self.items_of(first)[::-1])
                two.append(second)

    def items_of(self, head):
        """The items of the text of a class's first term, with heads of classes in the place of its parts."""
        return self.items_by(self.best[head])

    def items_by(self, index):
        """The same by a node."""
        row = self.web.rows[index]
        if is_leaf(row):
            return [leaf_text(row)]
        return ["(", *row[0].split(" "), *row[1:], ")"]

    def make_term(self, head, row):
        """Makes the first term of a class."""
        parts = _parts_of(row)
        self.terms[head] = (row[0], *[self.terms[part] for part in parts]) if parts else row
        self.levels[head] = 1 + max([self.levels[part] for part in parts], default=0)


def _parts_of(row):
    return () if is_leaf(row) else row[1:]


def _users_of(web):
    """By node: how many classes its parts lie in; and by head the nodes that have a part in its class."""
    waiting, users = {}, {}
    for index in web.at.values():
        heads = sorted(set(_parts_of(web.rows[index])))
        waiting[index] = len(heads)
        for head in heads:
            users.setdefault(head, []).append(index)
    return waiting, users
