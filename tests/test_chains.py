"""Steps, moments, chains, and groups of terms that are apart."""

import random
import unittest

from helpers import (
    P, Q, STRANGE, TRUE, X, Y, Draw, DrawCalls, Raises, as_lists, has_no_list, kind, name, number, parts, subterms,
)
from leastequal.calls import folded, turned
from leastequal.chains import Apart, Chain, Link, Step, Use, after, chain, done, many_steps, moment, plain_steps
from leastequal.check_chains import shows_apart, shows_chain
from leastequal.classes import Classes
from leastequal.errors import BadBook, BadClasses, BadStep, BadTerm, Misfit, TooMany
from leastequal.members import many_members, member_at
from leastequal.papers import Denial, Paper
from leastequal.program import Function, Program
from leastequal.rounds import grown
from leastequal.rules import Book, Rule
from leastequal.shelves import Shelf
from leastequal.terms import part_at, with_part
from slow_classes import drawn_joins

A, B, C = name("a"), name("b"), name("c")
ONE, ZERO, TWO = number(1), number(0), number(2)
RULES = [
    Rule("swap", ("add", X, Y), ("add", Y, X), 2), Rule("zero", ("add", X, ZERO), X, 1), Rule("double", ("add", X, X), ("shl 1", X), 2),
    Rule("choice", ("if", P, X, X), X, 1), Rule("no", ("no", ("no", P)), P, 1), Rule("one", ("sub", TWO, ONE), ONE, 1),
]
UP = Function("up", ["i"], [("add", name("i"), ONE)])
PAIR = Function("pair", ["a", "b"], [("add", A, ONE), ("add", B, A)])
PROGRAM = Program(2, 3, [UP, PAIR], [], [])
SHELF = Shelf(PROGRAM, Book(2, RULES), [])


def reason(index):
    return (f"r{index}", 1 if index % 3 else -1, (("x", number(index)),))


def joined(seed, many=8, size=5, leaves=(A, B, C, P, ZERO, ONE)):
    """A drawn Classes whose reasons tell which join they are of, and its drawn terms."""
    rng = random.Random(seed)
    draw = Draw(rng, leaves, ["add", "neg", "if", "eq", "no", "flip"])
    classes, terms = Classes(), []
    for one, other in drawn_joins(rng, draw, many, size):
        terms.extend([one, other])
        if rng.random() < 0.8:
            classes.join(one, other, reason(len(classes.record)))
        else:
            classes.put(one)
    return classes, terms, rng, draw


def two_of_a_class(classes, rng):
    """Two members of one class, of sizes up to 5."""
    places = [place for place in classes.places if sum(many_members(classes, place, size) for size in range(1, 6)) > 1]
    if not places:
        return A, A
    place = rng.choice(places)
    members = [member_at(classes, place, size, index) for size in range(1, 6) for index in range(min(9, many_members(classes, place, size)))]
    return rng.choice(members), rng.choice(members)


def slow_moment(classes, one, other):
    for many in range(len(classes.record) + 1):
        made = Classes()
        for first, second, _ in classes.record[:many]:
            made.join(first, second, None)
        if made.put(one) == made.put(other):
            return many
    return None


def told_terms(classes, one, other):
    """The terms that the facts of point [12] tell, each once."""
    terms = [one, other] + [term for join in classes.record for term in join[:2]]
    found = []
    for term in terms:
        for part in subterms(term):
            if part not in found:
                found.append(part)
    return found


class TestDone(Raises, unittest.TestCase):
    def test_rules(self):
        term = ("neg", ("add", ("neg", A), B))
        step = Step("swap", 1, (0,), (("x", ("neg", A)), ("y", B)))
        back = ("neg", ("add", B, ("neg", A)))
        self.assertEqual(done(SHELF, term, step), back)
        self.assertEqual(done(SHELF, back, Step("swap", -1, (0,), step.terms)), term)
        self.assertEqual(done(SHELF, as_lists(back), Step("swap", 1, [0], [["x", as_lists(B)], ["y", ["neg", ["name", "a"]]]])), term)
        self.assertEqual(done(step=Step("double", -1, (), [("x", A)]), term=("shl 1", A), shelf=SHELF), ("add", A, A))

    def test_rules_of_one_way(self):
        self.assertEqual(done(SHELF, ("add", A, ZERO), Step("zero", 1, (), [("x", A)])), A)
        self.assertEqual(done(SHELF, ("neg", A), Step("zero", -1, [0], [("x", A)])), ("neg", ("add", A, ZERO)))
        self.assertEqual(done(SHELF, A, Step("choice", -1, (), [("p", Q), ("x", A)])), ("if", Q, A, A))
        self.assertEqual(done(SHELF, ("if", TRUE, A, B), Step("no", -1, (0,), [("p", TRUE)])), ("if", ("no", ("no", TRUE)), A, B))
        self.assertEqual(done(SHELF, ("call up 0", A), Step("call up 0", 1, (), [("i", A)])), ("add", A, ONE))
        self.assertEqual(done(SHELF, ("sub", TWO, ONE), Step("one", 1, (), ())), ONE)

    def test_folds_and_turns(self):
        fold, loop = ("add", ONE, TWO), ("loop pair 1", TWO, A, ("neg", B))
        for whole, rule, made in ((fold, "fold", number(3)), (loop, "turn", turned(PROGRAM, loop)), (("loop up 0", ZERO, A), "turn", A)):
            outer = ("neg", ("at", whole))
            self.assertEqual(done(SHELF, outer, Step(rule, 1, (0, 0), [("term", whole)])), ("neg", ("at", made)))
            self.assertEqual(done(SHELF, ("neg", ("at", made)), Step(rule, -1, (0, 0), [["term", as_lists(whole)]])), outer)
        self.assertEqual(folded(fold), number(3))

    def test_each_part_bent(self):
        term = ("neg", ("add", A, B))
        good = ("swap", 1, (0,), (("x", A), ("y", B)))
        self.assertEqual(done(SHELF, term, Step(*good)), ("neg", ("add", B, A)))
        bent = {
            "rule": STRANGE + ["Swap", "", "call up 1", "call gone 0", ["swap"], 5, RULES[0]],
            "way": STRANGE + [0, 2, -2, "1", 1.0, [1]],
            "place": STRANGE + [5, "0", [True], [-1], [1], [0, 2], [0, 0, 0], [0.0], ["0"], [0, -1]],
            "terms": STRANGE + [
                5, (), (("x", A),), (("x", A), ("y", B), ("z", C)), (("y", B), ("x", A)), (("x", A), ("x", B)), (("x", A), ("y", P)), (("x", A), ("y", 5)),
                (("x", A), ("y",)), {"x": A, "y": B}, (("x", A), (["y"], B)), (("x", A), ("y", ("add", B))), (("x", A, A), ("y", B)), (("p", A), ("y", B)),
            ],
        }
        keys = ("rule", "way", "place", "terms")
        for index, key in enumerate(keys):
            for value in bent[key]:
                worse = [*good[:index], value, *["no", 5, [9], None][index + 1:]]
                self.check_part(BadStep, key, done, SHELF, term, Step(*good[:index], value, *good[index + 1:]))
                self.check_part(BadStep, key, done, SHELF, term, Step(*worse))
        for step in (Step("swap", 1, (), good[3]), Step("swap", 1, (0, 0), good[3]), Step("swap", -1, (0,), good[3]), Step("swap", 1, (0,), (("x", B), ("y", A)))):
            self.check_part(Misfit, "step", done, SHELF, term, step)

    def test_terms_of_folds_and_turns(self):
        term = ("add", ONE, TWO)
        for rule, terms in (
            ("fold", ()), ("fold", [("term", A)]), ("fold", [("term", ("loop up 0", ZERO, A))]), ("fold", [("x", term)]), ("fold", [("term", term), ("term", term)]),
            ("fold", [("term", 5)]), ("fold", [(5, term)]), ("fold", None), ("fold", [("term", number(2147483648))]), ("turn", [("term", term)]), ("turn", ()),
            ("turn", [("term", ("loop up 0", number(4), A))]), ("turn", [("term", ("loop gone 0", ZERO, A))]), ("turn", [("term", ("loop up 0", A, A))]),
        ):
            self.check_part(BadStep, "terms", done, SHELF, term, Step(rule, 1, (), terms))
        self.check_part(Misfit, "step", done, SHELF, term, Step("fold", 1, (), [("term", ("add", TWO, ONE))]))
        self.check_part(Misfit, "step", done, SHELF, number(4), Step("fold", -1, (), [("term", term)]))

    def test_kinds_of_terms(self):
        term = ("if", Q, A, A)
        for terms in ([("p", A), ("x", A)], [("p", Q), ("x", Q)], [("x", A), ("p", Q)], [("x", A)]):
            self.check_part(BadStep, "terms", done, SHELF, term, Step("choice", 1, (), terms))

    def test_parameters(self):
        step = Step("swap", 1, (), ())
        for bad in STRANGE + [5, Book(1, [])]:
            for action in (done, after):
                self.check_part(BadBook, "shelf", action, bad, bad, bad)
        for bad in STRANGE + [5, ("add", A)]:
            for action in (done, after):
                self.check_part(BadTerm, "term", action, SHELF, bad, bad)
        for bad in STRANGE + [5, ("swap", 1, (), ()), Use(0, 1, ()), Paper("step", "swap", 1, (), ()), [step]]:
            self.check_part(BadStep, "step", done, SHELF, A, bad)
        for bad in STRANGE + [5, step, [step, 5], [Use(0, 1, ())], {0: step}]:
            self.check_part(BadStep, "steps", after, SHELF, A, bad)

    def test_after(self):
        steps = [Step("zero", 1, (0,), [("x", A)]), Step("double", 1, (), [("x", A)]), Step("double", -1, (), [("x", A)]), Step("zero", -1, (1,), [("x", A)])]
        start = ("add", ("add", A, ZERO), A)
        self.assertEqual(after(SHELF, start, steps), ("add", A, ("add", A, ZERO)))
        self.assertEqual(after(SHELF, start, tuple(steps[:2])), ("shl 1", A))
        self.assertEqual(after(steps=[], shelf=SHELF, term=as_lists(start)), start)
        self.check_part(Misfit, "step", after, SHELF, start, steps[1:])
        self.check_part(BadStep, "way", after, SHELF, start, [steps[0], Step("double", 0, (), [("x", A)]), Step("gone", 1, (), ())])
        self.check_part(BadStep, "rule", after, SHELF, start, [steps[0], Step("gone", 1, (), ()), Step("double", 0, (), ())])

    def test_papers(self):
        for paper, word, keys, values in (
            (Step("a", [1], 2, [[3]]), "step", ("rule", "way", "place", "terms"), ("a", (1,), 2, ((3,),))), (Use([1], 2, 3), "use", ("link", "way", "place"), ((1,), 2, 3)),
            (Link(1, [2], [3]), "link", ("one", "other", "steps"), (1, (2,), (3,))), (Chain([1]), "chain", ("links",), ((1,),)), (Apart([[1]]), "apart", ("groups",), (((1,),),)),
        ):
            self.assertEqual((paper.word, paper.parts, bool(paper), isinstance(paper, Denial)), (word, values, word != "apart", word == "apart"))
            self.assertEqual(tuple(getattr(paper, key) for key in keys), values)
        self.assertEqual(Step(terms=4, place=3, way=2, rule=1), Step(1, 2, 3, 4))
        self.assertEqual((Use(place=3, way=2, link=1), Link(steps=3, other=2, one=1)), (Use(1, 2, 3), Link(1, 2, 3)))


class TestMoment(Raises, unittest.TestCase):
    def test_drawn(self):
        seen = []
        for seed in range(60):
            classes, terms, rng, draw = joined(seed, 12, 4)
            copy = classes.copy()
            for _ in range(8):
                one = rng.choice(terms) if rng.random() < 0.5 else draw.term("word", 6)
                other = rng.choice([rng.choice(terms), draw.term("word", 6), ("neg", one) if kind(one) == "word" else ("no", one)])
                if rng.random() < 0.6:
                    one, other = two_of_a_class(classes, rng)
                if rng.random() < 0.5 and kind(one) == kind(other) == "word":
                    one, other = ("mul", one, A), ("mul", other, rng.choice([A, B]))
                found = moment(classes, as_lists(one), other)
                self.assertEqual(found, slow_moment(classes, one, other))
                seen.append(found)
            self.assertTrue(copy == classes)
        self.assertGreater(len([one for one in seen if one]), 30)
        self.assertGreater(seen.count(None), 30)

    def test_single_ones(self):
        classes = Classes()
        classes.join(A, B, None)
        classes.put(C)
        classes.join(B, C, None)
        self.assertEqual([moment(classes, A, other) for other in (A, B, C, X)], [0, 1, 2, None])
        self.assertEqual(moment(classes, ("neg", ("neg", X)), ("neg", ("neg", X))), 0)
        self.assertEqual(moment(classes, ("neg", ("neg", A)), ("neg", ("neg", C))), 2)
        self.assertIsNone(moment(one=A, other=P, classes=classes))

    def test_errors(self):
        classes = Classes()
        for action in (moment, chain, lambda classes, one, other: shows_apart(classes, one, other, 5)):
            for bad in STRANGE + [5, SHELF]:
                self.check_part(BadClasses, "classes", action, bad, bad, bad)
            for bad in STRANGE + [5, ("add", A)]:
                self.check_part(BadTerm, "one", action, classes, bad, bad)
                self.check_part(BadTerm, "other", action, classes, A, bad)


class TestChain(Raises, unittest.TestCase):
    def follow(self, classes, first_joins, value):
        """Goes through all links: each step must be a join of the first ones, each use that of an earlier link."""
        by_rule = {join[2][0]: join for join in classes.record[:first_joins]}
        for number_of_link, link in enumerate(value.links):
            term = link.one
            for step in link.steps:
                if isinstance(step, Use):
                    self.assertTrue(0 <= step.link < number_of_link)
                    ends = (value.links[step.link].one, value.links[step.link].other)[::step.way]
                else:
                    one, other, why = by_rule[step.rule]
                    self.assertEqual(step.terms, why[2])
                    ends = (one, other)[::step.way * why[1]]
                self.assertIn(step.way, (1, -1))
                self.assertEqual(part_at(term, step.place), ends[0])
                term = with_part(term, step.place, ends[1])
            self.assertEqual(term, link.other)

    def look_at(self, classes, one, other):
        found = chain(classes, one, other)
        many = moment(classes, one, other)
        told = told_terms(classes, one, other)
        if many is None:
            self.check_apart(classes, one, other, found, told)
            return found
        self.assertIs(type(found), Chain)
        self.assertTrue(has_no_list(found.parts))
        self.assertEqual((found.links[-1].one, found.links[-1].other), (one, other))
        most_parts = max([1] + [len(parts(term)) for term in told])
        self.assertLessEqual(len(found.links), len(told))
        for link in found.links:
            self.assertLessEqual(len(link.steps), most_parts * len(told))
        self.follow(classes, many, found)
        self.assertEqual(chain(classes, one, other), found)
        return found

    def check_apart(self, classes, one, other, found, told):
        together = Classes()
        for first, second, _ in classes.record:
            together.join(first, second, None)
        groups = {}
        for term in told:
            groups.setdefault(together.put(term), [])
        groups = {}
        for term in told:
            groups.setdefault(together.class_of(term), []).append(term)
        self.assertEqual(found, Apart(sorted(sorted(group) for group in groups.values())))
        self.assertIs(shows_apart(classes, one, other, found), True)

    def test_drawn(self):
        chains = 0
        for seed in range(60):
            classes, terms, rng, draw = joined(1000 + seed, 9, 6)
            copy = classes.copy()
            for _ in range(8):
                one, other = rng.choice(terms), rng.choice(terms)
                if rng.random() < 0.5:
                    one, other = two_of_a_class(classes, rng)
                if rng.random() < 0.4 and kind(one) == kind(other) == "word":
                    one, other = ("flip", ("add", one, other)), ("flip", ("add", other, one))
                if rng.random() < 0.4:
                    label = "neg" if kind(one) == "word" else "no"
                    one = (label, one)
                    other = (label, other) if kind(other) == kind(one[1]) else other
                chains += isinstance(self.look_at(classes, one, other), Chain)
            self.assertTrue(copy == classes)
        self.assertGreater(chains, 80)

    def test_few_leaves(self):
        for seed in range(40):
            classes, terms, rng, _ = joined(2000 + seed, 12, 4, (A, ZERO, TRUE))
            for _ in range(6):
                self.look_at(classes, rng.choice(terms), rng.choice(terms))

    def test_equal_terms(self):
        classes = Classes()
        self.assertEqual(chain(classes, A, A), Chain([Link(A, A, [])]))
        classes.join(A, B, "no reason")
        self.assertEqual(chain(classes, ("neg", C), as_lists(("neg", C))), Chain([Link(("neg", C), ("neg", C), ())]))

    def test_both_directions(self):
        classes = Classes()
        classes.join(A, B, ("up", 1, [("x", A)]))
        classes.join(B, C, ("down", -1, [("x", C)]))
        self.assertEqual(chain(classes, A, C), Chain([Link(A, C, [Step("up", 1, (), [("x", A)]), Step("down", -1, (), [("x", C)])])]))
        self.assertEqual(chain(classes, C, A), Chain([Link(C, A, [Step("down", 1, (), [("x", C)]), Step("up", -1, (), [("x", A)])])]))

    def test_only_the_first_joins(self):
        classes = Classes()
        classes.join(A, B, reason(0))
        classes.join(("neg", A), C, reason(1))
        classes.join(("neg", B), X, "no reason")
        classes.join(C, ("neg", Y), reason(3))
        self.assertEqual(moment(classes, ("neg", B), C), 2)
        self.look_at(classes, ("neg", B), C)

    def test_reasons(self):
        good = ("r", 1, (("x", A),))
        bad = [
            None, 5, "r", (), ("r", 1), ("r", 1, (), ()), (5, 1, ()), ("r", 0, ()), ("r", True, ()), ("r", "1", ()), ("r", 1, None), ("r", 1, (("x",),)),
            ("r", 1, ((5, A),)), ("r", 1, (("x", 5),)), ("r", 1, (("x", ("add", A)),)), ("r", 2, ()), ("r", 1, (("x", A, A),)), ("r", 1.0, ()), (["r"], 1, ()),
        ]
        for why in bad:
            classes = Classes()
            classes.join(X, Y, good)
            classes.join(A, B, why)
            self.assertEqual(many_steps(chain(classes, X, Y)), 1)
            self.check_part(BadStep, "why", chain, classes, A, B)
            self.assertIs(type(chain(classes, A, X)), Apart)
            classes.join(B, C, good)
            self.check_part(BadStep, "why", chain, classes, B, C)
            self.assertEqual(many_steps(chain(classes, ("neg", X), ("neg", Y))), 1)
            self.assertEqual(many_steps(chain(classes, C, C)), 0)
        for why in (("", 1, ()), ["fold", -1, [["term", as_lists(A)]]], ("any name", 1, (("", P), ("", A)))):
            classes = Classes()
            classes.join(A, B, why)
            self.assertEqual(chain(classes, A, B).links[0].steps[0].rule, why[0])

    def test_very_many_plain_steps(self):
        # Each of 60 names is twice the one ahead of it, so the two last ones differ at very many places.
        classes = Classes()
        classes.join(A, B, reason(0))
        one, other = A, B
        for index in range(60):
            first, second = name(f"a{index}"), name(f"b{index}")
            classes.join(first, ("add", one, one), reason(len(classes.record)))
            classes.join(second, ("add", other, other), reason(len(classes.record)))
            one, other = first, second
        found = self.look_at(classes, one, other)
        self.assertEqual(many_steps(found), 3 * 2 ** 60 - 2)
        self.check(TooMany, {"what": "steps", "most": 10000}, plain_steps, found)
        self.assertEqual(many_steps(self.look_at(classes, ("neg", name("a9")), ("neg", name("b9")))), 3 * 2 ** 10 - 2)

    def test_grown(self):
        rng = random.Random(41)
        seen = 0
        for seed in range(16):
            draw = DrawCalls(random.Random(seed), [A, B, P, ZERO, ONE, TWO], ["add", "if", "neg"], [UP, PAIR])
            term = draw.term("word", 9)
            told = grown(term, SHELF, 3, 150)
            for size in range(1, 9):
                many = many_members(told.classes, told.place, size)
                for index in sorted({rng.randrange(many) for _ in range(2)} if many else ()):
                    other = member_at(told.classes, told.place, size, index)
                    found = chain(told.classes, term, other)
                    self.assertIs(shows_chain(SHELF, term, other, found), True)
                    if many_steps(found) < 200:
                        self.assertEqual(after(SHELF, term, plain_steps(found)), other)
                    back = chain(told.classes, other, term)
                    self.assertIs(shows_chain(SHELF, other, term, back), True)
                    self.assertIs(shows_chain(SHELF, term, other, back), term == other)
                    seen += len(found.links) > 1
        self.assertGreater(seen, 30)


class TestPlainSteps(Raises, unittest.TestCase):
    def test_uses_of_uses(self):
        first = Link(A, B, [Step("p", 1, (0,), 1), Step("q", -1, (1, 2), 2)])
        second = Link(A, B, [Use(0, 1, (5,)), Step("r", 1, (), 3), Use(0, -1, [6])])
        last = Link(A, B, [Use(1, -1, (7,)), Use(0, 1, ()), Use(1, 1, ())])
        value = Chain([first, second, last])
        self.assertEqual(many_steps(value), 12)
        forward = [("p", 1, (5, 0), 1), ("q", -1, (5, 1, 2), 2), ("r", 1, (), 3), ("q", 1, (6, 1, 2), 2), ("p", -1, (6, 0), 1)]
        back = [(rule, -way, (7, *place), terms) for rule, way, place, terms in forward[::-1]]
        wanted = back + [("p", 1, (0,), 1), ("q", -1, (1, 2), 2)] + forward
        self.assertEqual(plain_steps(value), tuple(Step(*one) for one in wanted))
        self.assertEqual((many_steps(chain=Chain([first, second])), len(plain_steps(chain=Chain([first])))), (5, 2))

    def test_single_link(self):
        self.assertEqual((many_steps(Chain([Link(A, B, [])])), plain_steps(Chain([Link(A, B, [])]))), (0, ()))
        step = Step("any", 1, (), None)
        self.assertEqual((many_steps(Chain([Link(A, P, [step])])), plain_steps(Chain([Link(A, P, [step])]))), (1, (step,)))

    def test_ten_thousand(self):
        step = Step("p", 1, (), ())
        hundred = Link(A, A, [step] * 100)
        edge = Chain([hundred, Link(A, A, [Use(0, 1, (3,))] * 100)])
        self.assertEqual((many_steps(edge), len(plain_steps(edge))), (10000, 10000))
        self.assertEqual(set(one.place for one in plain_steps(edge)), {(3,)})
        over = Chain([hundred, Link(A, A, [Use(0, -1, ())] * 100 + [step])])
        self.assertEqual(many_steps(over), 10001)
        self.check(TooMany, {"what": "steps", "most": 10000}, plain_steps, over)

    def test_uses_of_nothing(self):
        links = [Link(A, A, [])]
        for index in range(80):
            links.append(Link(A, A, [Use(index, 1, ()), Use(index, -1, ())]))
        self.assertEqual((many_steps(Chain(links)), plain_steps(Chain(links))), (0, ()))

    def test_no_chains(self):
        step = Step("p", 1, (), ())
        good = Link(A, B, [step])
        bad = [
            Chain([]), Chain(None), Chain(5), Chain([5]), Chain([good, step]), Chain(good), Chain([Link(5, B, [])]), Chain([Link(A, ("add", A), [])]), Chain([Link(A, B, None)]),
            Chain([Link(A, B, [5])]), Chain([Link(A, B, [good])]), Chain([Link(A, B, step)]), Chain([Link(A, B, {0: step})]), Paper("chain", [good]), [good], good, step, None, 5,
        ]
        for way in STRANGE + [0, 2, "1", 1.0]:
            bad.extend([Chain([Link(A, B, [Step("p", way, (), ())])]), Chain([good, Link(A, B, [Use(0, way, ())])])])
        for place in STRANGE + [0, "0", (-1,), (True,), (0.0,), ((0,),), {0: 0}]:
            bad.extend([Chain([Link(A, B, [Step("p", 1, place, ())])]), Chain([good, Link(A, B, [Use(0, 1, place)])])])
        for link in STRANGE + [1, 2, -1, "0", 0.0, (0,)]:
            bad.append(Chain([good, Link(A, B, [Use(link, 1, ())]), good]))
        bad.append(Chain([Link(A, B, [Use(0, 1, ())]), good]))
        for value in bad:
            self.check_part(BadStep, "chain", many_steps, value)
            self.check_part(BadStep, "chain", plain_steps, value)

    def test_what_cannot_be_done(self):
        value = Chain([Link(A, P, [Step(None, 1, (9, 9), 5)]), Link(B, C, [Use(0, -1, (8,))])])
        self.assertEqual(plain_steps(value), (Step(None, -1, (8, 9, 9), 5),))


if __name__ == "__main__":
    unittest.main()
