"""Rules, what is taken of them, and books."""

import unittest

from helpers import FALSE, P, Q, STRANGE, TRUE, X, Y, Raises, as_lists, flag, has_no_list, name, number
from leastequal.errors import BadBook, BadNumber, BadRule, Impossible, TooMany, Twice
from leastequal.rules import Book, NotTaken, Rule, Taken, Unsure, judged, taken
from slow_rules import balanced, power


def sized(size, leaf=X):
    """A word term of this size, an odd one, with few levels."""
    return balanced("add", [leaf] * ((size + 1) // 2))


def tall(levels, leaf=X):
    term = leaf
    for _ in range(levels - 1):
        term = ("neg", term)
    return term


LEFT = ("add", X, ("if", P, Y, number(0)))


class TestRule(Raises, unittest.TestCase):
    def bent(self, part, *arguments):
        self.check_part(BadRule, part, Rule, *arguments)

    def test_keeps(self):
        sides = as_lists(LEFT), as_lists(("sub", X, Y))
        rule = Rule("one", sides[0], sides[1], 1)
        sides[0][1][1] = "z"
        sides[1].append("z")
        self.assertEqual((rule.name, rule.left, rule.right, rule.ways), ("one", LEFT, ("sub", X, Y), 1))
        self.assertTrue(has_no_list((rule.left, rule.right)))
        self.assertEqual(vars(Rule(ways=2, right=LEFT, left=LEFT, name="a b 2"))["ways"], 2)

    def test_names(self):
        for good in ("a", "0", "a" * 40, "call f 0", "x 1 y 2", "folds", "turn 0", "a fold", "the turn", "0" * 19 + " " + "z" * 20):
            self.assertEqual(Rule(good, LEFT, X, 1).name, good)
        bad = ["", "a" * 41, "a  b", " a", "a ", " ", "A", "aB", "a_b", "a-b", "a\tb", "a\n", "fold", "turn", "\u00e9", "a" * 20 + " " + "b" * 20]
        for one in STRANGE + bad + [5, ["a"], ("a",)]:
            self.bent("name", one, 5, 5, 5)

    def test_left(self):
        for good in (number(5), TRUE, FALSE, sized(199), tall(30), ("neg", sized(199)), ("call f 0",), ("at", ("call f 0", X)), ("no", P)):
            self.assertEqual(Rule("a", good, good, 1).left, good)
        bad = [X, P, sized(201), ("neg", ("neg", sized(199))), tall(31), ("if", flag("x"), X, Y), ("if", P, ("neg", name("p")), Y), ("add", X)]
        for one in STRANGE + bad + [5, "x", ()]:
            self.bent("left", "a", one, 5, 5)
        self.bent("left", "a", as_lists(X), X, 1)

    def test_right(self):
        for good in (X, Y, number(3), sized(199), tall(30), ("neg", sized(199)), ("if", P, Y, X), ("call g 5",), LEFT):
            self.assertEqual(Rule("a", LEFT, good, 1).right, good)
        bad = [
            P, TRUE, ("eq", X, Y), sized(201), ("neg", ("neg", sized(199))), tall(31), name("z"), ("neg", name("p")), ("if", Q, X, Y),
            ("if", flag("x"), X, Y), ("add", X),
        ]
        for one in STRANGE + bad + [5, "x", ()]:
            self.bent("right", "a", LEFT, one, 5)
        self.bent("right", "a", ("no", P), X, 1)
        self.bent("right", "a", ("no", P), flag("q"), 1)
        self.assertEqual(Rule("a", ("no", P), P, 1).right, P)

    def test_ways(self):
        for bad in STRANGE + [0, 3, -1, "1", "2", 1.0, [1]]:
            self.bent("ways", "a", LEFT, LEFT, bad)
        for right in (X, Y, ("add", X, Y), ("if", P, X, X), number(3)):
            self.assertEqual(Rule("a", LEFT, right, 1).ways, 1)
            self.bent("ways", "a", LEFT, right, 2)
        self.bent("ways", "a", ("neg", X), X, 2)
        self.bent("ways", "a", ("no", P), P, 2)
        self.assertEqual(Rule("a", ("neg", X), ("flip", X), 2).ways, 2)
        self.assertEqual(Rule("a", number(1), number(1), 2).ways, 2)
        self.assertEqual(Rule("a", ("no", TRUE), FALSE, 2).ways, 2)

    def test_first_of_several(self):
        self.bent("name", "", X, X, 3)
        self.bent("left", "a", X, 5, 3)
        self.bent("right", "a", LEFT, TRUE, 3)

    def test_equality(self):
        rule = Rule("a", LEFT, X, 1)
        self.assertTrue(rule == Rule("a", as_lists(LEFT), as_lists(X), 1))
        others = [Rule("b", LEFT, X, 1), Rule("a", ("neg", X), X, 1), Rule("a", LEFT, Y, 1), 5, None, ("a", LEFT, X, 1)]
        self.assertFalse(any(rule == other for other in others))
        self.assertFalse(Rule("a", LEFT, LEFT, 1) == Rule("a", LEFT, LEFT, 2))


class TestTaken(Raises, unittest.TestCase):
    def test_is_judged(self):
        sides = [(("add", X, X), ("shl 1", X)), (("and", X, X), X), (("mul", X, X), X), (("or", X, Y), Y), (("at", X), X)]
        sides.append((("and", ("mul", X, X), number(2)), number(0)))
        for left, right in sides:
            for least in (1, 3, 8):
                self.assertEqual(taken(Rule("a", left, right, 1), least), judged(left, right, least))
        self.assertEqual(taken(rule=Rule("a", ("no", P), ("no", P), 2), least=1).way, "plain")

    def test_errors(self):
        for bad in STRANGE + ["a", (LEFT, X)]:
            self.check_part(BadRule, "rule", taken, bad, 0)
        for bad in STRANGE + [0, 9, "1"]:
            self.check_part(BadNumber, "least", taken, Rule("a", LEFT, X, 1), bad)
        deep = Rule("a", ("and", ("mul", power(("add", X, Y), 5), power(("add", X, Y), 5)), X), X, 1)
        self.check(TooMany, {"what": "monomials", "most": 1000}, taken, deep, 1)
        wide = balanced("and", [name(f"a{index}") for index in range(5)])
        self.check(TooMany, {"what": "names", "most": 4}, taken, Rule("a", wide, wide, 2), 1)


class TestBook(Raises, unittest.TestCase):
    def test_keeps(self):
        rules = [Rule(f"r{index}", ("add", X, X), ("shl 1", X), 2) for index in range(100)]
        book = Book(1, rules)
        self.assertEqual((book.least, book.rules), (1, tuple(rules)))
        rules.pop()
        self.assertEqual(len(book.rules), 100)
        self.assertEqual((Book(8, []).least, Book(rules=(), least=3).rules), (8, ()))

    def test_parameters(self):
        rule = Rule("a", ("add", X, X), ("shl 1", X), 2)
        for bad in STRANGE + [0, 9, "1"]:
            self.check_part(BadNumber, "least", Book, bad, 5)
        many = [Rule(f"r{index}", ("add", X, X), ("shl 1", X), 2) for index in range(101)]
        for bad in STRANGE + [5, "a", rule, [rule, 5], [rule, None], {rule.name: rule}, many]:
            self.check_part(BadRule, "rules", Book, 1, bad)

    def test_what_is_not_for_books(self):
        wrong = ("and", X, number(1))
        bad = [
            Rule("a b", wrong, X, 1), Rule("a" * 13, wrong, X, 1), Rule("a", sized(31), wrong, 1), Rule("a", wrong, sized(31), 1),
            Rule("a", ("call f 0", X), X, 1), Rule("a", wrong, ("add", X, ("loop f 0", X, X)), 1), Rule("a", wrong, ("at", ("call f 0",)), 1),
        ]
        good = Rule("good", ("add", X, X), ("shl 1", X), 2)
        for one in bad:
            self.check_part(BadBook, "rules", Book, 1, [good, good, Rule("c", wrong, X, 1), one])
        edge = Rule("a" * 12, ("neg", sized(29)), ("mul", number(-15), X), 1)
        self.assertEqual(Book(1, [edge]).rules, (edge,))

    def test_twice(self):
        wrong = Rule("b", ("and", X, number(1)), X, 1)
        one, other = Rule("a", ("add", X, X), ("shl 1", X), 2), Rule("a", ("neg", X), ("neg", X), 2)
        self.check(Twice, {"value": "a"}, Book, 1, [wrong, one, other, wrong])
        self.check(Twice, {"value": "b"}, Book, 1, [wrong, one, wrong, other])

    def test_what_does_not_hold(self):
        good = Rule("good", ("add", X, X), ("shl 1", X), 2)
        low = Rule("low", ("shl 2", X), number(0), 1)
        wrong = Rule("wrong", ("and", X, number(1)), X, 1)
        open_rule = Rule("open", ("and", ("mul", X, X), number(2)), number(0), 1)
        wide = balanced("and", [name(f"a{index}") for index in range(5)])
        great = Rule("great", wide, wide, 2)
        for rules, error in (([good, low, wrong], low), ([good, wrong, great], wrong), ([open_rule, wrong], open_rule)):
            with self.assertRaises(Impossible) as caught:
                Book(1, rules)
            self.assertEqual(caught.exception.paper, taken(error, 1))
        self.assertEqual(taken(low, 1), NotTaken(3, [("x", 1)], (), ()))
        self.assertIsInstance(taken(open_rule, 1), Unsure)
        self.check(TooMany, {"what": "names", "most": 4}, Book, 1, [good, great, wrong])

    def test_what_holds_from_a_width_on(self):
        two = Rule("two", ("and", number(2), ("and", X, number(4))), number(0), 1)
        eight = Rule("eight", ("if", ("eq", number(4), number(0)), X, Y), Y, 1)
        self.assertEqual(Book(1, [two]).rules, (two,))
        self.assertIsInstance(taken(eight, 3), Taken)
        self.assertEqual(Book(3, [eight]).rules, (eight,))
        with self.assertRaises(Impossible) as caught:
            Book(2, [two, eight])
        self.assertEqual((caught.exception.paper.word, caught.exception.paper.width), ("nottaken", 2))

    def test_equality(self):
        one, other = Rule("a", ("add", X, X), ("shl 1", X), 2), Rule("b", ("neg", X), ("neg", X), 2)
        self.assertTrue(Book(1, [one, other]) == Book(1, (one, other)))
        for book in (Book(2, [one, other]), Book(1, [one]), Book(1, [other, one]), 5, None, (1, (one, other))):
            self.assertFalse(Book(1, [one, other]) == book)


if __name__ == "__main__":
    unittest.main()
