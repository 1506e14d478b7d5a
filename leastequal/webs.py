"""Webs: nodes in classes, where no node stands twice."""

from leastequal.forms import is_leaf, kind_of, parts_of
from leastequal.walks import bottom_up


class Web:
    """Nodes in classes. Numbers that became one have one head, by which nodes tell their parts.

    A node has an index. Its row is a leaf, or a label and the heads of the classes of its parts; at tells the index of
    the node that stands with a row. The place of a class is the least number that came to it.
    """

    def __init__(self):
        self.heads = []
        self.numbers = {}
        self.kinds = {}
        self.held = {}
        self.users = {}
        self.least = {}
        self.by_place = {}
        self.rows = []
        self.homes = []
        self.at = {}

    def put(self, term):
        """Puts a term: the head of its class."""
        return bottom_up(term, parts_of, self.put_part)

    def put_part(self, part, inner):
        """Puts the node of a part whose own parts lie in the classes with these heads: the head of its class."""
        row = (part[0], *inner) if inner else part
        if row in self.at:
            return self.heads[self.homes[self.at[row]]]
        number, index = len(self.heads), len(self.rows)
        self.heads.append(number)
        self.numbers[number] = [number]
        self.kinds[number] = kind_of(part)
        self.held[number] = [index]
        self.users[number] = []
        self.least[number] = number
        self.by_place[number] = number
        self.rows.append(row)
        self.homes.append(number)
        self.at[row] = index
        for head in sorted(set(inner)):
            self.users[head].append(index)
        return number

    def head_of(self, term):
        """The head of the class in which a term lies, None if it lies in none."""
        return bottom_up(term, parts_of, self.head_of_part)

    def head_of_part(self, part, inner):
        """The head of the class of a node, None if it stands nowhere."""
        index = None if None in inner else self.at.get((part[0], *inner) if inner else part)
        return None if index is None else self.heads[self.homes[index]]

    def unite(self, one, other):
        """Makes the classes of two nodes one, and those of all nodes that become equal: the lines between nodes.

        A line is a pair of nodes by which two classes became one: first the given ones, then the equal ones.
        """
        lines = []
        waiting = [(one, other)]
        while waiting:
            line = waiting.pop()
            ends = [self.heads[self.homes[index]] for index in line]
            if ends[0] != ends[1]:
                lines.append(line)
                waiting.extend(self.move(ends[0], ends[1]))
        return lines

    def move(self, one, other):
        """Brings the class of one head to another one: the pairs of nodes that become equal."""
        if len(self.users[one]) + len(self.numbers[one]) > len(self.users[other]) + len(self.numbers[other]):
            one, other = other, one
        del self.by_place[max(self.least[one], self.least[other])]
        self.least[other] = min(self.least[one], self.least[other])
        self.by_place[self.least[other]] = other
        for number in self.numbers[one]:
            self.heads[number] = other
        self.numbers[other].extend(self.numbers.pop(one))
        self.held[other].extend(self.held.pop(one))
        return self.move_users(self.users.pop(one), other)

    def move_users(self, indexes, head):
        """Makes the rows of nodes that had a part in a class that came to this head anew: the pairs of equal ones."""
        pairs = []
        for index in indexes:
            row = self.rows[index]
            # A node that became equal to another one stands no more.
            if self.at.get(row) == index:
                del self.at[row]
                made = (row[0], *[self.heads[part] for part in row[1:]])
                if made in self.at:
                    pairs.append((index, self.at[made]))
                else:
                    self.at[made] = index
                    self.rows[index] = made
                    self.users[head].append(index)
        return pairs

    def nodes_in(self, head):
        """The rows of the nodes of a class."""
        standing = [index for index in self.held[head] if self.at.get(self.rows[index]) == index]
        return [self.rows[index] for index in standing]

    def in_places(self, row):
        """A row with the places of the classes in the place of their heads."""
        return row if is_leaf(row) else (row[0], *[self.least[head] for head in row[1:]])

    def copy(self):
        """Another web with the same nodes, classes and numbers."""
        web = Web()
        web.heads = list(self.heads)
        web.numbers = {head: list(self.numbers[head]) for head in self.numbers}
        web.kinds = dict(self.kinds)
        web.held = {head: list(self.held[head]) for head in self.held}
        web.users = {head: list(self.users[head]) for head in self.users}
        web.least = dict(self.least)
        web.by_place = dict(self.by_place)
        web.rows = list(self.rows)
        web.homes = list(self.homes)
        web.at = {row: self.at[row] for row in self.at}
        return web
