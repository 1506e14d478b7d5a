"""Looking at chains, and at groups of terms that are apart."""

import random
import unittest

from helpers import P, STRANGE, TRUE, X, Y, Raises, as_lists, name, number
from leastequal.chains import Apart, Chain, Link, Step, Use, chain
from leastequal.check_chains import shows_apart, shows_chain
from leastequal.classes import Classes
from leastequal.errors import BadBook, BadTerm
from leastequal.papers import Denial, Paper
from leastequal.program import Function, Program
from leastequal.rules import Book, Rule
from leastequal.shelves import Shelf
from test_chains import joined

A, B, C = name("a"), name("b"), name("c")
ONE, ZERO, TWO = number(1), number(0), number(2)
RULES = [
    Rule("swap", ("add", X, Y), ("add", Y, X), 2), Rule("zero", ("add", X, ZERO), X, 1), Rule("double", ("add", X, X), ("shl 1", X), 2),
    Rule("choice", ("if", P, X, X), X, 1),
]
UP = Function("up", ["i"], [("add", name("i"), ONE)])
SHELF = Shelf(Program(2, 3, [UP], [], []), Book(2, RULES), [])
# ( neg ( add ( add a 0 ) ( add a 0 ) ) ) becomes ( neg ( shl 1 a ) ).
INNER = ("add", A, ZERO)
START, END = ("neg", ("add", INNER, INNER)), ("neg", ("shl 1", A))
ZEROS = Link(INNER, A, [Step("zero", 1, (), [("x", A)])])
DOUBLES = Link(("add", A, A), ("shl 1", A), [Step("double", 1, (), [("x", A)])])
LAST = Link(START, END, [Use(0, 1, (0, 1)), Use(0, 1, (0, 0)), Use(1, 1, (0,))])
GOOD = Chain([ZEROS, DOUBLES, LAST])


def with_steps(link, steps):
    return Link(link.one, link.other, steps)


class TestShowsChain(Raises, unittest.TestCase):
    def right(self, value, one=START, other=END):
        self.assertIs(shows_chain(SHELF, one, other, value), True)

    def wrong(self, value, one=START, other=END):
        self.assertIs(shows_chain(SHELF, one, other, value), False)

    def test_right_ones(self):
        self.right(GOOD)
        self.right(Chain([DOUBLES, ZEROS, with_steps(LAST, [Use(1, 1, (0, 0)), Use(1, 1, (0, 1)), Use(0, 1, (0,))])]))
        self.right(Chain([with_steps(LAST, [Use(0, 1, [0, 1])] * 0 + [
            Step("zero", 1, [0, 0], [("x", A)]), Step("zero", 1, [0, 1], [["x", as_lists(A)]]), Step("double", 1, [0], [("x", A)])])]))
        self.right(Chain([ZEROS, with_steps(LAST, [Step("double", 1, (0,), [("x", INNER)]), Use(0, 1, (0, 0))])]))
        # Ways there and back, links that are not used, and longer ways than chain returns.
        there = [Use(0, 1, (0, 1)), Use(0, -1, (0, 1)), *LAST.steps]
        self.right(Chain([ZEROS, DOUBLES, Link(TRUE, TRUE, []), with_steps(LAST, there)]))
        self.right(Chain([ZEROS, DOUBLES, Link(END, START, [Use(1, -1, (0,)), Use(0, -1, (0, 0)), Use(0, -1, (0, 1))])]), END, START)
        self.right(Chain([ZEROS, DOUBLES, LAST, Link(END, START, [Use(2, -1, ())])]), END, START)
        self.right(Chain([Link(A, A, [])]), A, A)
        self.assertIs(shows_chain(value=Chain([Link(as_lists(START), as_lists(START), ())]), other=as_lists(START), one=START, shelf=SHELF), True)

    def test_way_one_rules_go_back(self):
        self.right(Chain([Link(A, INNER, [Step("zero", -1, (), [("x", A)])])]), A, INNER)
        self.right(Chain([Link(("call up 0", A), ("add", A, ONE), [Step("call up 0", 1, (), [("i", A)])])]), ("call up 0", A), ("add", A, ONE))

    def test_ends(self):
        self.wrong(GOOD, END, START)
        self.wrong(GOOD, START, START)
        self.wrong(GOOD, END, END)
        self.wrong(Chain([ZEROS, LAST, DOUBLES]))
        self.wrong(Chain([ZEROS, DOUBLES]))
        self.wrong(Chain([ZEROS, DOUBLES, with_steps(Link(START, START, []), LAST.steps)]), START, START)

    def test_links_bent(self):
        for links in ([DOUBLES, ZEROS, LAST], [ZEROS, LAST], [DOUBLES, LAST], [LAST], [ZEROS, ZEROS, LAST], [ZEROS, DOUBLES, LAST, ZEROS], [], [ZEROS, 5, LAST]):
            self.wrong(Chain(links))
        self.right(Chain([ZEROS, DOUBLES, ZEROS, LAST]))
        for first in (
            Link(A, A, ZEROS.steps), Link(INNER, INNER, ZEROS.steps), Link(A, INNER, ZEROS.steps), with_steps(ZEROS, []), with_steps(ZEROS, ZEROS.steps * 2),
            Link(INNER, ("neg", A), ZEROS.steps), Link(5, A, ZEROS.steps), Link(INNER, P, ZEROS.steps),
        ):
            self.wrong(Chain([first, DOUBLES, LAST]))
            # A link that is not used must be right as well.
            self.wrong(Chain([ZEROS, DOUBLES, first, LAST]))

    def test_steps_bent(self):
        rule, way, place, terms = ZEROS.steps[0].parts
        for step in (
            Step("gone", way, place, terms), Step("double", way, place, terms), Step(None, way, place, terms), Step(rule, -1, place, terms), Step(rule, 0, place, terms),
            Step(rule, True, place, terms), Step(rule, way, (0,), terms), Step(rule, way, (7,), terms), Step(rule, way, None, terms), Step(rule, way, place, [("x", B)]),
            Step(rule, way, place, []), Step(rule, way, place, [("y", A)]), Step(rule, way, place, [("x", A), ("y", A)]), Step(rule, way, place, [("x", P)]), 5, ("zero", 1, (), terms),
        ):
            self.wrong(Chain([with_steps(ZEROS, [step]), DOUBLES, LAST]))

    def test_uses_bent(self):
        for index in range(3):
            good = LAST.steps[index]
            for use in (
                Use(1 - good.link, 1, good.place), Use(2, 1, good.place), Use(-1, 1, good.place), Use(True, 1, good.place), Use(good.link, -1, good.place),
                Use(good.link, 0, good.place), Use(good.link, 1, ()), Use(good.link, 1, (*good.place, 0)), Use(good.link, 1, (0, 2)), Use(good.link, 1, (1,)),
                Use(good.link, 1, None), Use(good.link, 1, (True,)), Use(None, 1, good.place),
            ):
                steps = list(LAST.steps)
                steps[index] = use
                self.wrong(Chain([ZEROS, DOUBLES, with_steps(LAST, steps)]))
            for steps in (LAST.steps[:index] + LAST.steps[index + 1:], LAST.steps[:index + 1] + LAST.steps[index:]):
                self.wrong(Chain([ZEROS, DOUBLES, with_steps(LAST, steps)]))
        self.wrong(Chain([ZEROS, DOUBLES, with_steps(LAST, LAST.steps[::-1])]))
        self.right(Chain([ZEROS, DOUBLES, with_steps(LAST, (LAST.steps[1], LAST.steps[0], LAST.steps[2]))]))

    def test_other_values(self):
        for value in STRANGE + [5, GOOD.links, Paper("chain", GOOD.links), LAST, Apart(()), Denial("chain", GOOD.links), Chain(None), Chain(5)]:
            self.wrong(value)

    def test_kinds(self):
        self.wrong(Chain([Link(P, A, [])]), P, A)
        self.right(Chain([Link(("if", P, A, A), A, [Step("choice", 1, (), [("p", P), ("x", A)])])]), ("if", P, A, A), A)

    def test_parameters(self):
        for bad in STRANGE + [5, Book(1, [])]:
            self.check_part(BadBook, "shelf", shows_chain, bad, bad, bad, GOOD)
        for bad in STRANGE + [5, ("add", A)]:
            self.check_part(BadTerm, "one", shows_chain, SHELF, bad, bad, GOOD)
            self.check_part(BadTerm, "other", shows_chain, SHELF, A, bad, GOOD)


class TestShowsApart(Raises, unittest.TestCase):
    def setUp(self):
        self.box = Classes()
        self.box.join(("neg", A), B, 1)
        self.box.join(A, C, 2)
        self.box.put(("flip", A))
        self.one, self.other = ("neg", ("neg", C)), ("neg", C)

    def groups(self):
        return [list(group) for group in chain(self.box, self.one, self.other).groups]

    def look_at(self, groups, wanted):
        self.assertIs(shows_apart(self.box, self.one, self.other, Apart(groups)), wanted)

    def test_told_one(self):
        self.assertEqual(self.groups(), [[A, C], [B, ("neg", A), ("neg", C)], [("neg", ("neg", C))]])
        self.look_at(self.groups(), True)
        self.look_at(as_lists(self.groups()), True)

    def test_any_order(self):
        rng = random.Random(1)
        for _ in range(20):
            groups = self.groups()
            rng.shuffle(groups)
            for group in groups:
                rng.shuffle(group)
            self.look_at(groups, True)

    def test_a_term_moved(self):
        groups = self.groups()
        for first in range(3):
            for index in range(len(groups[first])):
                for second in range(4):
                    moved = self.groups() + [[]]
                    if first != second:
                        moved[second].append(moved[first].pop(index))
                        moved = [group for group in moved if group]
                        self.look_at(moved, first == 2 and second in (0, 3))

    def test_a_term_left_out_doubled_or_put_in(self):
        for first in range(3):
            for index in range(len(self.groups()[first])):
                left_out = self.groups()
                term = left_out[first].pop(index)
                self.look_at(left_out, False)
                self.look_at([group for group in left_out if group], False)
                for second in range(3):
                    doubled = self.groups()
                    doubled[second].append(term)
                    self.look_at(doubled, False)
        for extra in (("flip", A), X, P, 5, None, ("add", A), (), ("neg", ("neg", ("neg", C)))):
            for groups in (self.groups() + [[extra]], [group + [extra] for group in self.groups()[:1]] + self.groups()[1:]):
                self.look_at(groups, False)

    def test_groups_made_one_or_two(self):
        groups = self.groups()
        self.look_at([groups[0] + groups[2], groups[1]], True)
        self.look_at([groups[0] + groups[1], groups[2]], False)
        self.look_at([groups[0], groups[1] + groups[2]], False)
        self.look_at([groups[0] + groups[1] + groups[2]], False)
        self.look_at([groups[0], [B, ("neg", A)], [("neg", C)], groups[2]], False)
        self.look_at([groups[0], [B], [("neg", A), ("neg", C)], groups[2]], False)
        self.look_at([[A], [C], groups[1], groups[2]], False)
        self.look_at(groups + [[]], True)

    def test_a_group_of_parts(self):
        # With a and ( neg a ) in one group, their negatives must be in one group as well.
        box = Classes()
        one, other = ("add", A, ("neg", A)), ("add", A, A)
        self.assertIs(shows_apart(box, one, other, Apart([[A], [("neg", A)], [one], [other]])), True)
        self.assertIs(shows_apart(box, one, other, Apart([[A, ("neg", A)], [one], [other]])), False)
        self.assertIs(shows_apart(box, one, ("sub", A, A), Apart([[A, ("neg", A)], [one], [("sub", A, A)]])), True)
        calls = ("call f 0", A), ("call f 0", B)
        self.assertIs(shows_apart(box, *calls, Apart([[A, B], [calls[0]], [calls[1]]])), False)
        self.assertIs(shows_apart(box, ("call f 0",), ("call f 0", A), Apart([[A], [("call f 0",)], [("call f 0", A)]])), True)

    def test_connected_terms(self):
        self.assertIs(shows_apart(self.box, B, self.other, Apart(self.groups())), False)
        groups = [[A, C], [B, ("neg", A), ("neg", C)]]
        self.assertIs(shows_apart(self.box, B, self.other, Apart(groups)), False)
        self.assertIs(shows_apart(self.box, A, A, Apart([[A, C], [B, ("neg", A)]])), False)

    def test_other_values(self):
        groups = self.groups()
        for value in STRANGE + [5, groups, Paper("apart", groups), Denial("apart", groups), Chain(groups), Apart(None), Apart(5), Apart([5]), Apart({}), Apart(["ab"]), Apart([A, C])]:
            self.assertIs(shows_apart(self.box, self.one, self.other, value), False)
        self.assertIs(shows_apart(value=Apart(groups), other=self.other, one=self.one, classes=self.box), True)

    def test_drawn(self):
        seen = 0
        for seed in range(40):
            classes, terms, rng, _ = joined(3000 + seed, 8, 5)
            for _ in range(4):
                one, other = rng.choice(terms), rng.choice(terms)
                found = chain(classes, one, other)
                if isinstance(found, Apart):
                    seen += 1
                    self.assertIs(shows_apart(classes, one, other, found), True)
                    groups = [list(group) for group in found.groups]
                    first, second = rng.sample(range(len(groups)), 2)
                    if one in groups[first] + groups[second] and other in groups[first] + groups[second]:
                        merged = [group for index, group in enumerate(groups) if index not in (first, second)]
                        self.assertIs(shows_apart(classes, one, other, Apart(merged + [groups[first] + groups[second]])), False)
                    self.assertIs(shows_apart(classes, one, other, Apart(groups[:first] + groups[first + 1:])), False)
        self.assertGreater(seen, 60)


if __name__ == "__main__":
    unittest.main()
