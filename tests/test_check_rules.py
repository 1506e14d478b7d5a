"""Looking at papers about two terms and about rules."""

import unittest

from helpers import P, STRANGE, X, Y, Raises, as_lists, number
from leastequal.check_rules import shows_judged, shows_taken
from leastequal.errors import BadNumber, BadRule, TooMany
from leastequal.every import Fails, Holds, holds
from leastequal.papers import Denial, Paper
from leastequal.rules import NotTaken, Rule, Taken, Unsure, judged, plain_form, taken
from slow_rules import balanced, power, shifted

XX, XY = ("mul", X, X), ("mul", X, Y)
LOW = ("and", X, number(1))


class TestSums(Raises, unittest.TestCase):
    def right(self, left, right, least, *papers):
        for paper in papers:
            self.assertIs(shows_judged(left, right, least, paper), True, paper.parts)

    def wrong(self, left, right, least, *papers):
        for paper in papers:
            self.assertIs(shows_judged(left, right, least, paper), False)

    def test_taken(self):
        left, right = ("add", ("mul", X, Y), ("sub", X, Y)), ("sub", ("add", ("mul", Y, X), X), Y)
        told = ((("x",), 1), (("x", "y"), 1), (("y",), -1))
        self.assertEqual(judged(left, right, 1), Taken("sums", told))
        self.right(left, right, 3, Taken("sums", told), Taken("sums", as_lists(told)))
        bent = [
            told[:2], told[1:], told[::-1], (*told, (("z",), 0)), (((), 0), *told), told + told[:1], ((("x",), True), *told[1:]),
            ((("x",), 1.0), *told[1:]), ((("x",), 2), *told[1:]), (("x", 1), *told[1:]), ((("x",), 1, 1), *told[1:]),
            (told[0], (("y", "x"), 1), told[2]), (), None, 5, "x", dict(told), (told[0], told[1], 5), ((("x",), "1"), *told[1:]),
        ]
        self.wrong(left, right, 3, *[Taken("sums", one) for one in bent])
        self.wrong(left, right, 3, *[Taken(way, told) for way in ("plain", "Sums", "", None, 5, ["sums"], True)])
        self.wrong(left, right, 3, *STRANGE, told, ("sums", told), Paper("taken", "sums", told), Denial("taken", "sums", told))
        self.wrong(left, right, 3, NotTaken(3, [("x", 0), ("y", 0)], [], []), Unsure(told), Unsure(Fails(1, (), (), ())))
        self.wrong(left, ("add", right, number(8)), 3, Taken("sums", told))
        self.right(number(0), ("sub", X, X), 1, Taken("sums", []))
        self.wrong(number(0), ("sub", X, X), 1, Taken("sums", [[[], 0]]))

    def test_taken_is_of_both(self):
        self.wrong(XX, X, 1, Taken("sums", [[["x", "x"], 1]]), Taken("sums", [[["x"], 1]]))

    def test_not_taken(self):
        self.right(XX, X, 1, NotTaken(2, [("x", 2)], (), ()), NotTaken(2, [["x", 3]], [], []), NotTaken(300, [("x", 2)], (), ()))
        self.right(XX, X, 1, NotTaken(301, [("x", 2 ** 301 - 1)], (), ()), NotTaken(10 ** 90, [("x", 2)], (), [(5, 0), (10 ** 80, 1)]))
        self.right(XX, X, 2, NotTaken(2, [("x", 2)], (), [(0, 0), (3, 3)]))
        self.wrong(XX, X, 3, NotTaken(2, [("x", 2)], (), ()))
        self.wrong(XX, X, 1, NotTaken(1, [("x", 0)], (), ()), NotTaken(1, [("x", 2)], (), ()), NotTaken(5, [("x", 1)], (), ()))
        self.wrong(XX, X, 1, *[NotTaken(width, [("x", 2)], (), ()) for width in STRANGE + [0, -2, "2", 2.0]])
        self.wrong(XX, X, 1, *[NotTaken(2, names, (), ()) for names in (
            (), [("x", 2), ("x", 2)], [("y", 2)], [("x", 2), ("y", 1)], [("x", 4)], [("x", -1)], [("x", True)], [("x", "2")],
            [("x", 2.0)], [("x",)], [("x", 2, 2)], None, 5, {"x": 2}, [5], [(["x"], 2)],
        )])
        self.wrong(XX, X, 1, *[NotTaken(2, [("x", 2)], flags, ()) for flags in ([("p", True)], [("x", True)], None, 0, {}, "")])
        self.wrong(XX, X, 1, *[NotTaken(2, [("x", 2)], (), memory) for memory in (
            None, {}, [(0, 4)], [(4, 0)], [(0, -1)], [(1, 1), (0, 1)], [(1, 1), (1, 1)], [(1, True)], [(True, 1)], [(1,)], [5], [("0", 1)],
        )])
        great = shifted(XX, 400)
        self.right(great, number(0), 1, NotTaken(401, [("x", 1)], (), ()), judged(great, number(0), 1))
        self.wrong(great, number(0), 1, NotTaken(400, [("x", 1)], (), ()), NotTaken(401, [("x", 2)], (), ()))
        self.right(XY, X, 1, NotTaken(1, [("x", 1), ("y", 0)], (), ()))
        self.wrong(XY, number(0), 1, NotTaken(1, [("x", 1), ("y", 0)], (), ()), NotTaken(1, [("x", 0), ("y", 1)], (), ()))
        self.wrong(XY, X, 1, NotTaken(1, [("y", 0), ("x", 1)], (), ()), NotTaken(1, [("x", 1)], (), ()), NotTaken(1, [("y", 0)], (), ()))

    def test_each_label(self):
        for left, right, words, width in (
            (("sub", X, Y), ("add", X, Y), [("x", 0), ("y", 1)], 2), (("mul", X, ("sub", X, Y)), ("neg", X), [("x", 1), ("y", 0)], 2), (("neg", X), X, [("x", 1)], 2), (("shl 2", X), number(0), [("x", 1)], 3),
            (("mul", X, Y), ("add", X, Y), [("x", 1), ("y", 0)], 1), (number(-3), number(5), [], 4), (("neg", number(4)), number(4), [], 4),
        ):
            self.right(left, right, 1, NotTaken(width, words, (), ()))
            self.wrong(left, right, 1, NotTaken(width - 1, words, (), ()), NotTaken(width, words[:-1] + [("z", 1)], (), ()))


class TestOthers(Raises, unittest.TestCase):
    right = TestSums.right
    wrong = TestSums.wrong

    def test_taken(self):
        left, right = ("and", X, X), X
        paper = holds(plain_form(left, right)[0], 1)
        self.right(left, right, 1, Taken("plain", paper), judged(left, right, 1))
        guess, standings = paper.tables[0]
        bent = [
            Holds(()), Holds([(guess, standings[1:])]), Holds([(guess, standings), (guess, standings)]), Holds([((True,), standings)]),
            paper.tables, None, 5, Paper("holds", paper.tables), Fails(1, [("x", 1)], (), ()),
        ]
        self.wrong(left, right, 1, *[Taken("plain", one) for one in bent])
        self.wrong(left, right, 1, *[Taken(way, paper) for way in ("sums", "", None, ["plain"])])
        self.wrong(left, right, 1, paper, *STRANGE, Unsure(paper), NotTaken(1, [("x", 1)], (), ()))
        self.wrong(("and", X, Y), right, 1, Taken("plain", paper))
        # Sum terms have no such papers, others no polynomials.
        whole = holds(("eq", X, X), 1)
        self.wrong(X, X, 1, Taken("plain", whole))
        self.right(X, X, 1, Taken("sums", [(["x"], 1)]))
        self.wrong(left, right, 1, Taken("sums", [(["x"], 1)]))

    def test_not_taken(self):
        left, right = ("if", P, LOW, ("at", Y)), Y
        told = (2, [("x", 3), ("y", 2)], [("p", True)], [(2, 2)])
        self.right(left, right, 1, NotTaken(*told), NotTaken(300, *told[1:]), NotTaken(2, told[1], [["p", False]], [[0, 2], [2, 1]]))
        self.right(left, right, 2, NotTaken(2, told[1], [("p", False)], []), NotTaken(2, told[1], [("p", False)], [(2, 0), (3, 0)]))
        self.wrong(left, right, 3, NotTaken(*told))
        self.wrong(left, right, 1, *[NotTaken(width, *told[1:]) for width in STRANGE + [0, 1, 301, 10 ** 9, "2"]])
        self.wrong(left, right, 1, *[NotTaken(2, names, *told[2:]) for names in (
            [("x", 3)], [("y", 2), ("x", 3)], [("x", 3), ("y", 2), ("z", 0)], [("x", 3), ("y", 4)], [("x", 3), ("x", 3), ("y", 2)],
            [("x", True), ("y", 2)], (), None, [("x", 1), ("y", 1)],
        )])
        self.wrong(left, right, 1, *[NotTaken(2, told[1], flags, told[3]) for flags in (
            (), [("q", True)], [("p", 1)], [("p", 0)], [("p", None)], [("p", True), ("p", True)], [("p", True), ("q", True)], None, [("p", False)],
        )])
        self.wrong(left, right, 1, *[NotTaken(2, told[1], [("p", False)], memory) for memory in (
            [(2, 2)], [(2, 5)], [(3, 0), (2, 0)], [(2, 0), (2, 1)], [(5, 0)], [(2, True)], None, [(2, 1, 1)], [(-1, 1)],
        )])
        self.wrong(left, right, 1, Unsure(Fails(*told)), Taken("plain", Fails(*told)))

    def test_not_taken_with_calls(self):
        left, right = ("add", ("call f 0", X), LOW), ("add", ("call f 0", X), number(0))
        self.wrong(left, right, 1, NotTaken(1, [("x", 1)], (), ()))
        self.wrong(("and", X, number(2)), ("loop f 0", X, X), 2, NotTaken(2, [("x", 2)], (), ()))
        self.wrong(("loop f 0", X, X), ("and", X, number(2)), 2, NotTaken(2, [("x", 2)], (), ()))

    def test_unsure(self):
        left, right = ("and", XX, number(2)), number(0)
        fails = judged(left, right, 1).paper
        self.assertEqual(fails, Fails(2, fails.names, (), ()))
        self.right(left, right, 1, Unsure(fails), Unsure(Fails(9, [("p0", 2)], [], [])), Unsure(Fails(300, [("p0", 3)], [], [])))
        self.wrong(left, right, 3, Unsure(fails))
        self.wrong(left, right, 1, *[Unsure(one) for one in (
            None, 5, fails.parts, Fails(2, [("x", 2)], (), ()), Fails(2, [("p0", 1)], (), ()), Fails(2, [("p0", 2), ("x", 1)], (), ()),
            Denial("fails", 2, [("p0", 2)], (), ()), Holds(()),
        )])
        self.wrong(left, right, 1, NotTaken(2, [("x", 1)], (), ()), fails)

    def test_unsure_where_the_terms_have_unlike_values(self):
        # Here the words make the terms unlike, so something is told of them.
        left, right = ("and", XY, X), X
        told = [("p0", 0), ("x", 1)]
        self.wrong(left, right, 1, Unsure(Fails(1, told, (), ())))
        # With y told as 0 the product is 0.
        left, right = ("or", XY, X), X
        self.right(left, right, 1, Unsure(Fails(1, [("p0", 1), ("x", 0)], (), ())))
        left, right = ("or", ("and", XY, number(1)), ("call f 0", X)), ("call f 0", X)
        self.right(left, right, 1, Unsure(Fails(1, [("p0", 1), ("p1", 0)], (), ())))
        left, right = ("and", ("call f 0", X), LOW), X
        self.right(left, right, 1, Unsure(Fails(1, [("p0", 0), ("x", 1)], (), ())))

    def test_unsure_of_sums(self):
        self.wrong(XX, X, 1, Unsure(Fails(2, [("p0", 1), ("x", 0)], (), ())))

    def test_right_papers_that_are_never_returned(self):
        # A word other than the least one, a width above the least one, standings that are not reached.
        self.right(LOW, X, 1, NotTaken(7, [("x", 100)], (), ()))
        truth = plain_form(LOW, LOW)[0]
        (guess, standings), = holds(truth, 1).tables
        self.right(LOW, LOW, 1, Taken("plain", Holds([(guess, standings)])))


class TestTaken(Raises, unittest.TestCase):
    def test_sides(self):
        for left, right, least in ((("add", X, X), ("shl 1", X), 1), (("and", X, X), X, 2), (XX, X, 3), (LOW, X, 1), (("and", XX, number(2)), number(0), 1)):
            rule = Rule("a", left, right, 1)
            paper = taken(rule, least)
            self.assertIs(shows_taken(rule, least, paper), True)
            self.assertIs(shows_judged(left, right, least, paper), True)
            self.assertIs(shows_taken(rule, least, Paper(paper.word, *paper.parts)), False)
            self.assertIs(shows_taken(value=5, least=least, rule=rule), False)

    def test_errors(self):
        good = Taken("sums", [(["x"], 2)])
        for bad in STRANGE + ["a", 5]:
            self.check_part(BadRule, "rule", shows_taken, bad, 0, good)
        for bad in STRANGE + [0, 9]:
            self.check_part(BadNumber, "least", shows_taken, Rule("a", ("neg", X), X, 1), bad, good)
        wide = ("mul", balanced("add", [X] * 10), ("mul", balanced("add", [X] * 10), balanced("add", [X] * 11)))
        self.check(TooMany, {"what": "monomials", "most": 1000}, shows_taken, Rule("a", wide, X, 1), 1, None)
        many = {"what": "binomials", "most": 5000}
        self.check(TooMany, many, shows_judged, power(X, 5001), X, 1, 5)
        self.assertIs(shows_judged(power(X, 5001), power(X, 5001), 1, 5), False)


if __name__ == "__main__":
    unittest.main()
