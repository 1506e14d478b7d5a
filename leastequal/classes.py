"""Classes: terms that are made equal, kept by their nodes."""

from leastequal.checks import is_integer
from leastequal.errors import BadClasses, Misfit, NoClass
from leastequal.firsts import Firsts
from leastequal.forms import checked_term, is_leaf, kind_of
from leastequal.papers import fixed
from leastequal.webs import Web


class Classes:
    """Nodes in classes, which become one when terms are joined."""

    def __init__(self):
        self.web = Web()
        self.joins = []
        # What was worked out of the classes as they stand; it is dropped when they change.
        self.kept = {}

    @property
    def places(self):
        """The numbers of all classes, ascending."""
        return tuple(sorted(self.web.by_place))

    @property
    def many(self):
        """The number of all nodes."""
        return len(self.web.at)

    @property
    def record(self):
        """The triples of the joins by which two classes became one, in order."""
        return tuple(self.joins)

    def __eq__(self, other):
        if not isinstance(other, Classes) or self.places != other.places or self.many != other.many:
            return False
        if self.joins != other.joins:
            return False
        return all([self.nodes(place) == other.nodes(place) for place in self.places])

    def put(self, term):
        """Puts a term: the number of its class."""
        return self.web.least[self.put_head(checked_term(term, "term"))]

    def class_of(self, term):
        """The number of the class in which a term lies, None if it lies in none."""
        head = self.web.head_of(checked_term(term, "term"))
        return None if head is None else self.web.least[head]

    def join(self, one, other, why):
        """Puts two terms and makes their classes one: whether they were two."""
        first = checked_term(one, "one")
        second = checked_term(other, "other")
        if kind_of(first) != kind_of(second):
            raise Misfit("kinds")
        return self.join_heads(self.put_head(first), self.put_head(second), (first, second, fixed(why)))

    def put_head(self, term):
        """Puts a term: the head of its class."""
        many = len(self.web.rows)
        head = self.web.put(term)
        if len(self.web.rows) > many:
            self.kept = {}
        return head

    def join_heads(self, one, other, triple):
        """Makes the classes of two heads one, by a triple for the record: whether they were two."""
        if one == other:
            return False
        self.kept = {}
        self.web.unite(self.web.held[one][0], self.web.held[other][0])
        self.joins.append(triple)
        return True

    def nodes(self, place):
        """The nodes of a class, ascending."""
        head = self.head_at(place)
        return tuple(sorted([self.web.in_places(row) for row in self.web.nodes_in(head)]))

    def kind(self, place):
        """Whether the members of a class are words or truths."""
        return self.web.kinds[self.head_at(place)]

    def first_term(self, place):
        """Of the members of the least size of a class the one with the least text."""
        return self.all_firsts().terms[self.head_at(place)]

    def copy(self):
        """A Classes that is equal to this one, and does not change with it."""
        made = Classes()
        made.web = self.web.copy()
        made.joins = list(self.joins)
        return made

    def head_at(self, place):
        """The head of a class: NoClass for what is the number of none."""
        if not is_integer(place) or place not in self.web.by_place:
            raise NoClass(place)
        return self.web.by_place[place]

    def class_of_node(self, row):
        """The number of the class of a node that stands, told by the numbers of classes."""
        heads = () if is_leaf(row) else [self.web.by_place[place] for place in row[1:]]
        return self.web.least[self.web.head_of_part(row, heads)]

    def all_firsts(self):
        """The first terms of all classes."""
        if "firsts" not in self.kept:
            self.kept["firsts"] = Firsts(self.web)
        return self.kept["firsts"]


def check_classes(value, part):
    """Raises BadClasses for what is no Classes."""
    if not isinstance(value, Classes):
        raise BadClasses(part)
