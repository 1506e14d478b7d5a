"""Looking at papers that tell whether two classes have the same members."""

import itertools
import random
import time
import unittest

from helpers import FALSE, P, STRANGE, TRUE, X, Y, Z, Raises, as_lists, name, number, parts
from leastequal.check_members import shows_same_members
from leastequal.classes import Classes
from leastequal.errors import BadClasses, NoClass
from leastequal.members import Parting, SameMembers, member_at, same_members
from leastequal.papers import Denial, Paper
from slow_classes import members_of
from test_members import drawn

A, B = name("a"), name("b")
ZERO = number(0)


def nodes_of(classes):
    return {node: place for place in classes.places for node in classes.nodes(place)}


def wanted_pairs(pairs, homes):
    """All pairs that follow from the nodes of both Classes and pairs of their parts, by a trial of all choices."""
    found = set()
    for side in (0, 1):
        for node, home in homes[side].items():
            choices = [[pair for pair in pairs if pair[side] == part] for part in (node[1:] if parts(node) else ())]
            for some in itertools.product(*choices):
                beside = [pair[1 - side] for pair in some]
                made = (node[0], *beside) if beside else node
                its = None if None in beside else homes[1 - side].get(made)
                found.add((home, its) if side == 0 else (its, home))
    return found


def slow_shows(classes, place, other, its, pairs):
    homes = (nodes_of(classes), nodes_of(other))
    known = [{*classes.places, None}, {*other.places, None}]
    if not all(one in known[0] and two in known[1] and (one, two) != (None, None) for one, two in pairs):
        return False
    if any((one == place) != (two == its) for one, two in pairs):
        return False
    return wanted_pairs(set(pairs), homes) <= set(pairs)


def closed(pairs, homes):
    """The least closed pairs in which some stand."""
    pairs = set(pairs)
    while not wanted_pairs(pairs, homes) <= pairs:
        pairs |= wanted_pairs(pairs, homes)
    return pairs


def turned_about(rng, seed):
    """A Classes, and one with the same terms that were put in another order, so that its classes have other numbers."""
    one = drawn(seed, many=4, size=4)
    other = Classes()
    terms = [one.first_term(place) for place in one.places]
    rng.shuffle(terms)
    for term in terms:
        other.put(term)
    joins = list(one.record)
    rng.shuffle(joins)
    for first, second, _ in joins:
        other.join(second, first, None)
    return one, other


class TestSameMembers(Raises, unittest.TestCase):
    def test_what_is_told_is_shown(self):
        seen = []
        for seed in range(14):
            for one, other in (turned_about(random.Random(seed), seed), (drawn(seed, 3, 4), drawn(seed + 50, 3, 4))):
                for place, its in itertools.product(one.places, other.places):
                    value = same_members(one, place, other, its)
                    self.assertIs(shows_same_members(one, place, other, its, value), True)
                    seen.append(bool(value))
        self.assertGreater(seen.count(True), 20)
        self.assertGreater(seen.count(False), 100)

    def test_turned_classes_have_partners(self):
        for seed in range(10):
            one, other = turned_about(random.Random(seed), seed)
            for place in one.places:
                its = other.class_of(one.first_term(place))
                value = same_members(one, place, other, its)
                self.assertIsInstance(value, SameMembers)
                self.assertTrue(shows_same_members(one, place, other, its, value))
                for wrong in other.places:
                    self.assertIs(shows_same_members(one, place, other, wrong, value), wrong == its)

    def test_bent_pairs(self):
        rng = random.Random(1)
        seen = []
        for seed in range(25):
            one, other = turned_about(rng, seed) if seed % 2 else (drawn(seed, 3, 4), drawn(seed + 60, 3, 4))
            homes = (nodes_of(one), nodes_of(other))
            least = closed([], homes)
            for _ in range(30):
                place, its = rng.choice(sorted(least, key=str))
                place = rng.choice(one.places) if place is None else place
                its = rng.choice(other.places) if its is None else its
                pairs = sorted(least, key=str)
                for _ in range(rng.randint(0, 2)):
                    bend = rng.randint(0, 3)
                    drawn_pair = (rng.choice([*one.places, None]), rng.choice([*other.places, None]))
                    if bend == 0:
                        pairs.pop(rng.randrange(len(pairs)))
                    elif bend == 1:
                        pairs.append(drawn_pair)
                    elif bend == 2:
                        pairs[rng.randrange(len(pairs))] = drawn_pair
                    elif drawn_pair != (None, None):
                        pairs = list(closed([*pairs, drawn_pair], homes))
                rng.shuffle(pairs)
                wanted = slow_shows(one, place, other, its, pairs)
                self.assertIs(shows_same_members(one, place, other, its, SameMembers(pairs)), wanted)
                seen.append(wanted)
        self.assertGreater(seen.count(True), 100)
        self.assertGreater(seen.count(False), 100)

    def test_each_pair_is_needed(self):
        one, other = turned_about(random.Random(3), 3)
        place = one.places[-1]
        its = other.class_of(one.first_term(place))
        pairs = list(same_members(one, place, other, its).pairs)
        self.assertGreater(len(pairs), 4)
        for index in range(len(pairs)):
            self.assertIs(shows_same_members(one, place, other, its, SameMembers(pairs[:index] + pairs[index + 1:])), False)
        for form in (pairs[::-1], as_lists(pairs), pairs + pairs[:2]):
            self.assertIs(shows_same_members(one, place, other, its, SameMembers(form)), True)

    def test_pairs_that_are_no_partners(self):
        # Three classes each: x, y and 0. Other closed pairs are right, too, if they leave the two classes together.
        one, other = Classes(), Classes()
        self.assertEqual([one.put(X), one.put(Y), one.put(ZERO), other.put(X), other.put(Y), other.put(ZERO)], [0, 1, 2, 0, 1, 2])
        least = [(0, 0), (1, 1), (2, 2)]
        for more, right in (([], True), ([(1, 2)], True), ([(1, None)], True), ([(None, 2)], True), ([(0, 1)], False), ([(1, 0)], False), ([(0, None)], False), ([(None, 0)], False), ([(None, None)], False)):
            self.assertIs(shows_same_members(one, 0, other, 0, SameMembers(least + more)), right, more)
        self.assertIs(shows_same_members(one, 0, other, 1, SameMembers(least)), False)
        self.assertIs(shows_same_members(one, 0, other, 1, SameMembers([(0, 1), (1, 0), (2, 2)])), False)

    def test_parts_are_chosen_in_each_way(self):
        # In the one Classes x and y are one class, in the other they are two: ( add x y ) stands there, ( add y x ) not.
        one, other = Classes(), Classes()
        one.join(X, Y, None)
        one.put(("add", X, X))
        other.put(("add", X, Y))
        for box in (one, other):
            box.put(Z)
        self.assertEqual((one.places, one.nodes(2), other.nodes(2)), ((0, 2, 3), (("add", 0, 0),), (("add", 0, 1),)))
        right = [(0, 0), (0, 1), (2, 2), (2, None), (3, 3)]
        self.assertIs(shows_same_members(one, 3, other, 3, SameMembers(right)), True)
        for place, its in itertools.product(one.places, other.places):
            for many in range(len(right) + 1):
                for some in itertools.combinations(right, many):
                    wanted = (place, its) == (3, 3) and many == len(right)
                    self.assertIs(slow_shows(one, place, other, its, some), wanted)
                    self.assertIs(shows_same_members(one, place, other, its, SameMembers(some)), wanted)

    def test_calls_of_unlike_lengths(self):
        one, other = Classes(), Classes()
        one.put(("call f 0", X))
        other.put(("call f 0", X, X))
        one.put(("call f 0",))
        other.put(("call f 0",))
        pairs = [(0, 0), (1, None), (None, 1), (2, 2)]
        self.assertIs(shows_same_members(one, 2, other, 2, SameMembers(pairs)), True)
        for wrong in ([(0, 0), (1, 1), (2, 2)], [(0, 0), (1, None), (None, 1), (2, None), (None, 2)], [(0, 0), (1, None), (2, 2)], pairs[:2] + pairs[3:]):
            self.assertIs(shows_same_members(one, 2, other, 2, SameMembers(wrong)), False)

    def test_no_pairs(self):
        lone = Classes()
        lone.put(X)
        for bad in [*STRANGE, 5, "ab", [5], [(0,)], [(0, 0, 0)], [[0, [0]]], [(True, 0)], [(False, False)], [(0, 1.0)], [(0, 0.0)], ["00"], [(0, "0")], [(0, {})], [(1, 0)], [(0, -1)], {0: 0}, []]:
            self.assertIs(shows_same_members(lone, 0, lone, 0, SameMembers(bad)), False, bad)
        self.assertIs(shows_same_members(lone, 0, lone, 0, SameMembers([[0, 0]])), True)
        for bad in ((5, None), (None, 5), (5, 6), (-1, None), (None, None), (0, 1), (1, 0), (None, "0")):
            self.assertIs(shows_same_members(lone, 0, lone, 0, SameMembers([(0, 0), bad])), False, bad)

    def test_truths_for_numbers(self):
        two = Classes()
        two.put(X)
        two.put(Y)
        self.assertIs(shows_same_members(two, 0, two, 0, SameMembers([(0, 0), (1, 1)])), True)
        for pairs in ([(False, 0), (1, 1)], [(0, 0), (1, True)], [(0, False), (True, 1)], [(0, 0), (1, 1), (True, 1)]):
            self.assertIs(shows_same_members(two, 0, two, 0, SameMembers(pairs)), False)

    def test_many_nodes_in_a_short_time(self):
        # In the one Classes all names are one class, in the other each is a class of its own, and x stands nowhere.
        one, other = Classes(), Classes()
        names = [name(f"n{index}") for index in range(60)]
        for first in names:
            one.join(X, first, None)
        for term in (("add", X, X), ("loop f 0", *[X] * 7), Z):
            one.put(term)
        for first, second in itertools.product(names, repeat=2):
            other.put(("add", first, second))
        for term in (("loop f 0", *names[:7]), Z):
            other.put(term)
        started = time.time()
        pairs = [(one.class_of(X), None), (one.class_of(("add", X, X)), None), (one.class_of(("loop f 0", *[X] * 7)), None)]
        for place in other.places:
            pairs.append((one.class_of(other.first_term(place)), place))
        place, its = one.class_of(Z), other.class_of(Z)
        self.assertEqual(len(pairs), 3 + 60 + 3600 + 1 + 1)
        self.assertIs(shows_same_members(one, place, other, its, SameMembers(pairs)), True)
        for wrong in (0, 1, 2, 40, 2000, len(pairs) - 2):
            self.assertIs(shows_same_members(one, place, other, its, SameMembers(pairs[:wrong] + pairs[wrong + 1:])), False)
        self.assertLess(time.time() - started, 10)


class TestParting(Raises, unittest.TestCase):
    def test_all_members(self):
        seen = []
        for seed in range(8):
            one, other = drawn(seed, 3, 4), drawn(seed + 70, 3, 4)
            terms = [term for box in (one, other) for by_size in members_of(box, 4).values() for some in by_size.values() for term in some][:150]
            for place, its in itertools.product(one.places[:4], other.places[:4]):
                for term in terms:
                    wanted = (one.class_of(term) == place) != (other.class_of(term) == its)
                    self.assertIs(shows_same_members(one, place, other, its, Parting(term)), wanted)
                    seen.append(wanted)
        self.assertGreater(seen.count(True), 100)
        self.assertGreater(seen.count(False), 100)

    def test_any_size(self):
        web, lone = Classes(), Classes()
        web.join(("add", X, ZERO), X, None)
        lone.put(X)
        great = member_at(web, 0, 29, 0)
        for term in (("add", X, ZERO), great, as_lists(great)):
            self.assertIs(shows_same_members(web, 0, lone, 0, Parting(term)), True)
            self.assertIs(shows_same_members(lone, 0, web, 0, Parting(term)), True)
        for term in (X, ZERO, Y, ("add", ZERO, X)):
            self.assertIs(shows_same_members(web, 0, lone, 0, Parting(term)), False)
        # 0 is a member of a class of the first one alone, which is not the class that is asked for.
        self.assertIs(shows_same_members(web, 1, lone, 0, Parting(ZERO)), True)

    def test_no_terms(self):
        web, lone = Classes(), Classes()
        web.join(("neg", X), X, None)
        lone.put(X)
        for bad in [*STRANGE, 5, "x", (), ("neg",), ("name", "true"), ("number", True), (("neg", X),), ("neg", P), ["neg", ["neg"]]]:
            self.assertIs(shows_same_members(web, 0, lone, 0, Parting(bad)), False)


class TestArguments(Raises, unittest.TestCase):
    def test_other_papers(self):
        lone = Classes()
        lone.put(X)
        for value in [*STRANGE, 5, [(0, 0)], {"pairs": [(0, 0)]}, Paper("samemembers", [(0, 0)]), Denial("parting", X), Paper("parting", X), SameMembers, Parting]:
            self.assertIs(shows_same_members(lone, 0, lone, 0, value), False)
        self.assertIs(shows_same_members(value=SameMembers([(0, 0)]), its=0, other=lone, place=0, classes=lone), True)

    def test_errors(self):
        lone, two = Classes(), Classes()
        lone.put(X)
        two.put(TRUE)
        two.put(FALSE)
        good = SameMembers([(0, 0)])
        for bad in [*STRANGE, 5, [lone]]:
            self.check_part(BadClasses, "classes", shows_same_members, bad, None, bad, None, good)
            self.check_part(BadClasses, "other", shows_same_members, lone, 0, bad, None, good)
        for bad in [*STRANGE, 1, -1, "0", (0,), 0.0]:
            self.check(NoClass, {"value": bad}, shows_same_members, lone, bad, None, None, good)
            if bad != 1 or bad is True:
                self.check(NoClass, {"value": bad}, shows_same_members, lone, 0, two, bad, None)

    def test_nothing_is_changed(self):
        one, other = drawn(5, 3, 4), drawn(6, 3, 4)
        copies = one.copy(), other.copy()
        shows_same_members(one, one.places[0], other, other.places[0], SameMembers([(0, 0)]))
        shows_same_members(one, one.places[0], other, other.places[0], Parting(("add", ("neg", B), A)))
        self.assertTrue(copies == (one, other))


if __name__ == "__main__":
    unittest.main()
