"""The members of classes."""

import itertools
import random
import unittest

from helpers import P, STRANGE, TRUE, X, Y, DrawCalls, Raises, as_lists, kind, name, number, parts
from leastequal.classes import Classes
from leastequal.errors import BadClasses, BadNumber, BadTerm, Misfit, NoClass, TooMany
from leastequal.members import (
    Parting, SameMembers, all_members, index_of, is_endless, many_members, member_at, same_members,
)
from leastequal.papers import Denial
from leastequal.program import Function
from leastequal.terms import size_of
from slow_classes import drawn_joins, members_of
from slow_rules import balanced

A, B, C = name("a"), name("b"), name("c")
ONE, ZERO, TWO = number(1), number(0), number(2)
FUNCTIONS = [Function("f", ["a", "b", "c"], [A]), Function("g", [], [ONE])]


def drawn(seed, many=7, size=6, leaves=(A, B, P, ZERO)):
    rng = random.Random(seed)
    draw = DrawCalls(rng, leaves, ["add", "neg", "if", "no", "eq"], FUNCTIONS)
    classes = Classes()
    for one, other in drawn_joins(rng, draw, many, size):
        if rng.random() < 0.4:
            classes.put(one)
        else:
            classes.join(one, other, None)
    return classes


def ordered(classes, place, members):
    """Members of one class and one size in the told order, by the words of point [13]."""
    def key(at, term):
        inner = parts(term)
        if not inner:
            return (classes.nodes(at).index(term), (), ())
        places = [classes.class_of(part) for part in inner]
        node = classes.nodes(at).index((term[0], *places))
        return (node, tuple(size_of(part) for part in inner), tuple(key(one, part) for one, part in zip(places, inner)))
    return sorted(members, key=lambda term: key(place, term))


class TestCounts(Raises, unittest.TestCase):
    def test_against_a_listing(self):
        seen = 0
        for seed in range(40):
            classes = drawn(seed)
            found = members_of(classes, 7)
            for place in classes.places:
                for size in range(1, 8):
                    members = found[place][size]
                    self.assertEqual(many_members(classes, place, size), len(members))
                    if len(members) > 300:
                        continue
                    for index, term in enumerate(ordered(classes, place, members)):
                        self.assertEqual(member_at(classes, place, size, index), term)
                        self.assertEqual(index_of(classes, place, term), (size, index))
                        seen += 1
                    for bad in (len(members), -1, True, None, "0", 0.0):
                        self.check_part(BadNumber, "index", member_at, classes, place, size, bad)
        self.assertGreater(seen, 1000)

    def slow_counts(self, classes):
        """By class and size, how many members there are, from the counts of lesser sizes."""
        found = {(place, 0): 0 for place in classes.places}
        for size in range(1, 31):
            for place in classes.places:
                found[place, size] = sum(self.ways(found, node[1:] if parts(node) else (), size - 1) for node in classes.nodes(place))
        return found

    def ways(self, found, places, total):
        if not places:
            return int(total == 0)
        return sum(found[places[0], size] * self.ways(found, places[1:], total - size) for size in range(1, total - len(places) + 2) if found[places[0], size])

    def test_each_size(self):
        rng = random.Random(3)
        for seed in range(12):
            classes = drawn(100 + seed, 6, 5, (A, P, ZERO))
            found = self.slow_counts(classes)
            for place in classes.places:
                for size in rng.sample(range(1, 31), 6) + [30]:
                    many = found[place, size]
                    self.assertEqual(many_members(classes, place, size), many)
                    for index in {0, many // 3, many - 1} if many else ():
                        term = member_at(classes, place, size, index)
                        self.assertEqual((size_of(term), classes.class_of(term)), (size, place))
                        self.assertEqual(index_of(classes, place, as_lists(term)), (size, index))
                    self.check_part(BadNumber, "index", member_at, classes, place, size, many)

    def test_the_sizes_of_parts_come_first(self):
        classes = Classes()
        classes.join(("neg", A), A, None)
        top = classes.put(("add", A, A))
        texts = [member_at(classes, top, 5, index) for index in range(many_members(classes, top, 5))]
        self.assertEqual(texts, [("add", A, ("neg", ("neg", A))), ("add", ("neg", A), ("neg", A)), ("add", ("neg", ("neg", A)), A)])

    def test_three_parts(self):
        classes = Classes()
        classes.join(("neg", A), A, None)
        classes.join(A, B, None)
        classes.join(("flip", X), X, None)
        for top in (classes.put(("call f 0", A, X, A)), classes.put(("call f 0", X, A, A)), classes.put(("loop f 0", A, A, A, X))):
            for size in range(4, 9):
                many = many_members(classes, top, size)
                members = [member_at(classes, top, size, index) for index in range(many)]
                self.assertEqual(members, ordered(classes, top, members))
                self.assertEqual(len(set(members)), many)
                for index, term in enumerate(members):
                    self.assertEqual(index_of(classes, top, term), (size, index))

    def test_the_first_part_comes_first(self):
        classes = Classes()
        for one, other in ((A, B), (A, C)):
            classes.join(one, other, None)
        top = classes.put(("add", A, A))
        wanted = [("add", one, other) for one in (A, B, C) for other in (A, B, C)]
        self.assertEqual([member_at(classes, top, 3, index) for index in range(9)], wanted)
        self.assertEqual([index_of(classes, top, term)[1] for term in wanted], list(range(9)))

    def test_behind_a_change(self):
        classes = Classes()
        top = classes.put(("neg", A))
        self.assertEqual((many_members(classes, top, 2), many_members(classes, top, 3)), (1, 0))
        classes.join(A, B, None)
        self.assertEqual((many_members(classes, top, 2), member_at(classes, top, 2, 1)), (2, ("neg", B)))
        classes.join(A, ("neg", A), None)
        self.assertEqual([many_members(classes, 0, size) for size in (1, 2, 3, 30)], [2, 2, 2, 2])
        copy = classes.copy()
        copy.join(A, C, None)
        self.assertEqual((many_members(copy, 0, 4), many_members(classes, 0, 4)), (3, 2))

    def test_great_numbers(self):
        classes = Classes()
        classes.join(("add", A, A), A, None)
        # As many as there are ways to set brackets.
        self.assertEqual(many_members(classes, 0, 29), 2674440)
        self.assertEqual((many_members(classes, 0, 30), index_of(classes, 0, member_at(classes, 0, 29, 2674439))), (0, (29, 2674439)))

    def test_no_members(self):
        classes = Classes()
        classes.join(("neg", A), B, None)
        edge = ("add", balanced("add", [A] * 14), ("neg", A))
        for term in (A, C, ("neg", B), ("neg", ("neg", A)), TRUE, P, ("add", A, A)):
            self.check_part(Misfit, "term", index_of, classes, 1, term)
        place = classes.put(edge)
        self.assertEqual(index_of(classes, place, edge), (30, 0))
        self.check_part(Misfit, "term", index_of, classes, place, ("neg", edge))
        over = classes.put(("neg", edge))
        self.check(TooMany, {"what": "size", "most": 30}, index_of, classes, over, ("neg", edge))
        self.check_part(Misfit, "term", index_of, classes, place, ("neg", edge))

    def test_errors(self):
        classes = Classes()
        classes.put(("neg", A))
        classes.join(B, A, None)
        actions = [
            (many_members, (0,)), (is_endless, ()), (all_members, ()), (member_at, (0, 0)), (index_of, (5,)),
        ]
        for action, more in actions:
            for bad in STRANGE + [5, ()]:
                self.check_part(BadClasses, "classes", action, bad, bad, *more)
            for bad in STRANGE + [2, 3, -1, "0", (0,), A]:
                self.check(NoClass, {"value": bad}, action, classes, bad, *more)
        for bad in STRANGE + [0, 31, "1"]:
            self.check_part(BadNumber, "size", many_members, classes, 0, bad)
            self.check_part(BadNumber, "size", member_at, classes, 0, bad, -1)
        for bad in STRANGE + [5, ("add", A)]:
            self.check_part(BadTerm, "term", index_of, classes, 0, bad)
        self.assertEqual(member_at(index=1, size=1, place=0, classes=classes), B)
        self.assertEqual((index_of(term=B, place=0, classes=classes), many_members(size=1, place=0, classes=classes)), ((1, 1), 2))


class TestEndless(Raises, unittest.TestCase):
    def test_drawn(self):
        seen = set()
        for seed in range(80):
            classes = drawn(300 + seed, 4, 5)
            for place in classes.places:
                below = self.below(classes, place)
                endless = any(one in self.below(classes, one)[1:] for one in below)
                self.assertIs(is_endless(classes, place), endless)
                seen.add(endless)
                if endless:
                    self.check_part(Misfit, "endless", all_members, classes, place)
                else:
                    self.assertEqual(all_members(classes, place), self.total(classes, place))
        self.assertEqual(seen, {True, False})

    def below(self, classes, place):
        """The class and all that lie below it by one step or more, it too if it does."""
        found = [place]
        waiting = [place]
        while waiting:
            for node in classes.nodes(waiting.pop()):
                for part in node[1:] if parts(node) else ():
                    if part not in found[1:]:
                        found.append(part)
                        waiting.append(part)
        return found

    def total(self, classes, place):
        made = 0
        for node in classes.nodes(place):
            many = 1
            for part in node[1:] if parts(node) else ():
                many *= self.total(classes, part)
            made += many
        return made

    def test_single_ones(self):
        classes = Classes()
        for one, other in ((A, B), (("add", A, A), ("neg", A)), (("neg", X), X)):
            classes.join(one, other, None)
        top = classes.put(("mul", ("neg", A), ("neg", A)))
        self.assertEqual([all_members(classes, place) for place in (0, 2, top)], [2, 6, 36])
        mixed = classes.put(("add", A, X))
        self.assertEqual([is_endless(classes, place) for place in (0, 2, top, classes.class_of(X), mixed)], [False, False, False, True, True])

    def test_very_many(self):
        classes = Classes()
        classes.join(A, B, None)
        term, many = A, 2
        for index in range(9):
            new = name(f"x{index}")
            classes.join(new, ("add", term, term), None)
            term, many = new, many * many + 1
            self.assertEqual(all_members(classes, classes.class_of(new)), many)
        self.assertIs(is_endless(place=0, classes=classes), False)
        self.assertEqual(all_members(place=0, classes=classes), 2)


def all_pairs(classes, other):
    """By pair: the least size of a term that lies in these two classes; by all choices of pairs for all nodes, until nothing changes."""
    sides = [{node: place for place in one.places for node in one.nodes(place)} for one in (classes, other)]
    found = {}
    while True:
        changed = False
        for which, nodes in enumerate(sides):
            for node, place in nodes.items():
                inner = node[1:] if parts(node) else ()
                for some in itertools.product(*[[pair for pair in found if pair[which] == part] for part in inner]):
                    its = [pair[1 - which] for pair in some]
                    home = None if None in its else sides[1 - which].get((node[0], *its) if inner else node)
                    pair = (place, home) if which == 0 else (home, place)
                    size = 1 + sum(found[one] for one in some)
                    if size < found.get(pair, size + 1):
                        found[pair] = size
                        changed = True
        if not changed:
            return found


class TestSameMembers(Raises, unittest.TestCase):
    def test_against_all_choices(self):
        seen = {SameMembers: 0, Parting: 0}
        for seed in range(150):
            classes = drawn(1600 + seed, 4, 5, (A, B, TRUE))
            other = drawn(1700 + seed, 4, 5, (A, B, TRUE))
            if seed % 2:
                other = classes.copy()
                for index in range(seed % 4):
                    one, two = [other.first_term(other.places[(seed + index * step) % len(other.places)]) for step in (1, 2)]
                    if kind(one) == kind(two):
                        other.join(one, two, None)
            if seed % 3 == 0:
                for one in (classes, other)[:1 + seed % 2]:
                    for spelling in "cdefgh":
                        one.join(A, name(spelling), None)
                for spelling in "cdefgh":
                    other.put(name(spelling))
                classes.put(("call f 0", A, A, A))
                other.put(("call f 0", C, A, C))
            found = all_pairs(classes, other)
            for place in classes.places[:4]:
                its = other.places[place % len(other.places)]
                unlike = [size for pair, size in found.items() if (pair[0] == place) != (pair[1] == its)]
                told = same_members(classes, place, other, its)
                seen[type(told)] += 1
                if unlike:
                    self.assertEqual((type(told), size_of(told.term)), (Parting, min(unlike)))
                else:
                    self.assertEqual(sorted(told.pairs, key=str), sorted(found, key=str))
        self.assertGreater(min(seen.values()), 50)

    def test_all_nodes_of_the_other(self):
        # The other Classes has a node of its own for each choice of parts.
        for label, many, spellings in (("add", 2, "abcdef"), ("call f 0", 3, "abcd"), ("loop f 0", 4, "abc")):
            one, other = Classes(), Classes()
            for spelling in spellings:
                one.join(A, name(spelling), None)
            top = one.put((label, *[A] * many))
            for parts_of_term in itertools.product(spellings, repeat=many):
                other.put((label, *[name(spelling) for spelling in parts_of_term]))
            place, its = one.put(TRUE), other.put(TRUE)
            wanted = {(0, other.class_of(name(spelling))) for spelling in spellings} | {(place, its)}
            for parts_of_term in itertools.product(spellings, repeat=many):
                wanted.add((top, other.class_of((label, *[name(spelling) for spelling in parts_of_term]))))
            self.assertEqual(sorted(same_members(one, place, other, its).pairs), sorted(wanted))
            self.assertEqual(sorted(same_members(other, its, one, place).pairs), sorted(pair[::-1] for pair in wanted))
            gone = (label, *[name(spellings[-1])] * many)
            other.join(gone, name("new"), None)
            one.put(name("new"))
            self.assertEqual(size_of(same_members(one, place, other, other.class_of(gone)).term), 1)

    def test_many_pairs_for_a_part(self):
        # One class of the first Classes has the members of a hundred classes of the other one.
        one, other = Classes(), Classes()
        for index in range(100):
            one.join(name("y0"), name(f"y{index}"), None)
            other.put(name(f"y{index}"))
        part = name("y0")
        for term in (("call f 0", part, part, part), ("call h 5", *[part] * 6), ("loop h 5", *[part] * 7)):
            one.put(term)
            other.put(term)
        place, its = one.put(TRUE), other.put(TRUE)
        found = same_members(one, place, other, its)
        self.assertEqual(len(found.pairs), 100 + 2 * 3 + 1)
        turned = same_members(other, its, one, place).pairs
        self.assertEqual(sorted(turned, key=str), sorted([pair[::-1] for pair in found.pairs], key=str))
        top = one.class_of(("loop h 5", *[part] * 7))
        self.assertEqual(size_of(same_members(one, top, other, other.class_of(("loop h 5", *[part] * 7))).term), 8)

    def look_at(self, classes, place, other, its, most=7):
        """Looks at what same_members tells against listings of members up to a size."""
        copies = classes.copy(), other.copy()
        found = same_members(classes, place, other, its)
        self.assertTrue(copies[0] == classes and copies[1] == other)
        self.assertEqual(same_members(classes, place, other, its), found)
        mine, theirs = members_of(classes, most), members_of(other, most)
        unlike = None
        for size in range(most, 0, -1):
            if set(mine[place][size]) != set(theirs[its][size]):
                unlike = size
        if isinstance(found, Parting):
            self.assertTrue(classes.class_of(found.term) == place or other.class_of(found.term) == its)
            self.assertFalse(classes.class_of(found.term) == place and other.class_of(found.term) == its)
            if unlike is not None:
                self.assertEqual(size_of(found.term), unlike)
            else:
                self.assertGreater(size_of(found.term), most)
            return found
        self.assertIsNone(unlike)
        self.assertIsInstance(found, SameMembers)
        self.assertEqual(len(set(found.pairs)), len(found.pairs))
        lie = set()
        for by_size in list(mine.values()) + list(theirs.values()):
            for terms in by_size.values():
                lie.update((classes.class_of(term), other.class_of(term)) for term in terms)
        self.assertLessEqual(lie, set(found.pairs))
        self.assertTrue(all(None not in (pair[0], pair[1]) or pair != (None, None) for pair in found.pairs))
        return found

    def test_equal_ones(self):
        for seed in range(20):
            classes = drawn(500 + seed, 4, 5)
            for place in classes.places[:3]:
                found = self.look_at(classes, place, classes.copy(), place, 5)
                self.assertEqual(sorted(found.pairs), [(one, one) for one in classes.places])

    def test_other_ones(self):
        seen = set()
        for seed in range(60):
            rng = random.Random(seed)
            classes = drawn(600 + seed, 3, 4, (A, ZERO, TRUE))
            other = drawn(700 + seed % 7, 3, 4, (A, ZERO, TRUE)) if seed % 3 else classes.copy()
            if rng.random() < 0.5:
                other.put(("neg", ("neg", ("neg", A))))
            for _ in range(3):
                found = self.look_at(classes, rng.choice(classes.places), other, rng.choice(other.places), 6)
                seen.add(type(found))
        self.assertEqual(seen, {SameMembers, Parting})

    def test_turned(self):
        # The same joins in another order give classes of other numbers.
        pairs = [(("neg", A), B), (("add", A, ZERO), A), (("add", B, B), C), (("neg", ZERO), ZERO)]
        one, other = Classes(), Classes()
        for first, second in pairs:
            one.join(first, second, None)
        for first, second in pairs[::-1]:
            other.join(second, first, None)
        for place in one.places:
            its = other.class_of(one.first_term(place))
            found = self.look_at(one, place, other, its, 6)
            self.assertEqual(sorted(found.pairs), sorted((at, other.class_of(one.first_term(at))) for at in one.places))
            for wrong in other.places:
                if wrong != its:
                    self.assertIsInstance(self.look_at(one, place, other, wrong, 5), Parting)

    def test_pairs_beside_the_classes(self):
        one, other = Classes(), Classes()
        one.put(("neg", A))
        other.put(("neg", B))
        one.put(C)
        other.put(C)
        found = same_members(one, 2, other, 2)
        self.assertEqual(sorted(found.pairs, key=str), sorted([(0, None), (1, None), (None, 0), (None, 1), (2, 2)], key=str))
        self.assertEqual(same_members(classes=one, place=0, other=other, its=0).term in (A, B), True)

    def test_calls_without_parts(self):
        one, other = Classes(), Classes()
        one.join(("call g 0",), ("neg", ("call g 0",)), None)
        other.join(("call g 0",), ("neg", ("neg", ("call g 0",))), None)
        self.assertEqual(self.look_at(one, 0, other, 0), Parting(("neg", ("call g 0",))))
        other.join(("neg", ("call g 0",)), ("call g 0",), None)
        self.assertEqual(same_members(one, 0, other, 0), SameMembers([(0, 0)]))

    def test_endless_ones(self):
        # The negatives by twos and by threes: they meet at sixes.
        one, other = Classes(), Classes()
        one.join(("neg", ("neg", A)), A, None)
        other.join(("neg", ("neg", ("neg", A))), A, None)
        self.assertEqual(same_members(one, 0, other, 0), Parting(("neg", ("neg", A))))
        both = Classes()
        both.join(("neg", ("neg", ("neg", ("neg", A)))), A, None)
        both.join(("neg", ("neg", A)), A, None)
        self.assertEqual(sorted(same_members(one, 0, both, 0).pairs), [(0, 0), (1, 1)])

    def test_each_pair_once(self):
        one, other = Classes(), Classes()
        one.join(("add", A, A), A, None)
        for first, second in ((("add", A, B), A), (("add", A, A), B), (("add", B, A), B), (("add", B, B), A)):
            other.join(first, second, None)
        other.join(B, C, None)
        one.put(B)
        one.put(C)
        found = same_members(one, one.class_of(B), one, one.class_of(C))
        self.assertIn(found, (Parting(B), Parting(C)))
        found = same_members(one, 0, other, other.class_of(A))
        self.assertEqual(found, Parting(("add", A, A)))

    def test_great_partings(self):
        # The least terms double in size from class to class.
        def bare(times, end):
            classes = Classes()
            term = end
            for _ in range(times):
                term = ("add", term, term)
            return classes, classes.put(term)
        for times, size in ((3, 15), (9, 1023)):
            one, top = bare(times, A)
            other = one.copy()
            other.put(B)
            other.join(("neg", ("neg", A)), ("neg", A), None)
            other.join(("neg", A), B, None)
            self.assertIsInstance(same_members(one, top, other, top), SameMembers)
            other.join(A, B, None)
            found = same_members(one, top, other, top)
            self.assertEqual(size_of(found.term), size)
        one, top = bare(10, A)
        other, its = bare(10, B)
        self.check(TooMany, {"what": "size", "most": 2000}, same_members, one, top, other, its)

    def test_just_at_two_thousand(self):
        for first, wanted in ((("neg", balanced("add", [A] * 1000)), 2000), (balanced("add", [A] * 1001), None)):
            one, other = Classes(), Classes()
            top = one.put(first)
            other.put(B)
            its = other.put(("flip", first))
            if wanted:
                self.check(TooMany, {"what": "size", "most": 2000}, same_members, other, its, one, one.put(("flip", ("flip", first))))
                self.assertEqual(size_of(same_members(one, top, other, its).term), 2000)
            else:
                self.check(TooMany, {"what": "size", "most": 2000}, same_members, one, top, other, its)

    def test_errors(self):
        classes = Classes()
        classes.put(A)
        for bad in STRANGE + [5, ()]:
            self.check_part(BadClasses, "classes", same_members, bad, bad, bad, bad)
            self.check_part(BadClasses, "other", same_members, classes, 0, bad, bad)
        for bad in STRANGE + [1, -1, "0"]:
            self.check(NoClass, {"value": bad}, same_members, classes, bad, 5, 5)
            self.check(NoClass, {"value": bad}, same_members, classes, 0, classes, bad)

    def test_papers(self):
        for paper, word, value in ((SameMembers([[0, None]]), "samemembers", ((0, None),)), (Parting(["name", "x"]), "parting", X)):
            self.assertEqual((paper.word, paper.parts, bool(paper)), (word, (value,), word != "parting"))
        self.assertEqual((SameMembers(pairs=1).pairs, Parting(term=Y).term), (1, Y))
        self.assertTrue(isinstance(Parting(1), Denial) and not isinstance(SameMembers(1), Denial))


if __name__ == "__main__":
    unittest.main()
