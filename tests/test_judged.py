"""What is judged of two terms."""

import random
import unittest

from helpers import (
    FALSE, P, Q, STRANGE, TRUE, X, Y, Z, Draw, DrawCalls, Raises, all_told, as_lists, flag, has_no_list, name, number, subterms, worth,
)
from leastequal.check_rules import shows_judged
from leastequal.errors import BadNumber, BadTerm, Misfit, TooMany
from leastequal.every import Fails, Holds, holds
from leastequal.papers import Denial, Paper
from leastequal.plain import plain_value
from leastequal.polynomials import parting, polynomial
from leastequal.program import Function
from leastequal.rules import NotTaken, Taken, Unsure, judged, plain_form
from slow_rules import balanced, flags_of, is_sum_label, names_of, power

XX, XY = ("mul", X, X), ("mul", X, Y)
LOW = number(1)
UP = Function("up", ["i"], [("add", ("name", "i"), number(1))])


def is_sum(term):
    return all(is_sum_label(part[0]) for part in subterms(term))


def has_calls(*terms):
    return any(part[0].startswith(("call ", "loop ")) for term in terms for part in subterms(term))


class TestSums(Raises, unittest.TestCase):
    def test_drawn(self):
        rng = random.Random(21)
        draw = Draw(rng, [X, Y, number(0), number(1), number(2), number(4)], ["add", "sub", "mul", "neg", "shl 1", "shl 2"])
        seen = {True: 0, False: 0}
        for _ in range(300):
            left, right, least = draw.term("word", rng.randint(1, 6)), draw.term("word", rng.randint(1, 6)), rng.randint(1, 8)
            found, parts = judged(left, right, least), parting(left, right, least)
            seen[bool(found)] += 1
            if parts is None:
                self.assertEqual(found, Taken("sums", polynomial(left)))
            else:
                self.assertEqual(found, NotTaken(parts[0], parts[1], (), ()))
        self.assertGreater(min(seen.values()), 10)

    def test_each_least(self):
        row = balanced("mul", [("sub", X, number(index)) for index in range(6)])
        for least in range(1, 9):
            self.assertEqual(judged(row, number(0), least), NotTaken(max(5, least), [("x", 6)], [], []))
            self.assertEqual(judged(XY, ("mul", Y, X), least), Taken("sums", [[["x", "y"], 1]]))

    def test_too_many(self):
        wide = balanced("add", [X] * 1001)
        for left, right in ((wide, X), (X, wide), (wide, wide)):
            self.check(TooMany, {"what": "monomials", "most": 1000}, judged, left, right, 1)
        self.check(TooMany, {"what": "binomials", "most": 5000}, judged, power(X, 5001), X, 1)
        self.assertEqual(judged(power(X, 5001), power(X, 5001), 1), Taken("sums", ((("x",) * 5001, 1),)))
        # The numbers of sums have no bound.
        great = ("mul", ("shl 31", ("shl 31", X)), X)
        self.assertEqual(judged(great, great, 1).paper, ((("x", "x"), 2 ** 62),))
        self.assertEqual(judged(great, number(0), 1), NotTaken(63, [("x", 1)], (), ()))


class TestOthers(Raises, unittest.TestCase):
    def test_holds(self):
        pairs = [
            (("and", X, X), X), (("or", X, number(-1)), number(-1)), (("xor", X, X), number(0)), (("flip", X), ("sub", ("neg", X), LOW)),
            (("if", P, X, X), X), (("no", ("no", P)), P), (("both", P, Q), ("both", Q, P)), (("lt", X, Y), ("lt", X, ("add", Y, number(0)))),
            (("at", ("add", X, Y)), ("at", ("add", Y, X))), (("and", XY, XY), ("mul", Y, X)), (("at", XX), ("at", XX)),
            (("and", ("call f 0", X), ("call f 0", X)), ("call f 0", ("add", X, number(0)))),
            (("loop f 1", X, Y), ("loop f 1", X, Y)), (TRUE, ("eq", X, X)),
        ]
        for left, right in pairs:
            for least in (1, 5):
                found = judged(left, right, least)
                if left[0] == "and" and has_calls(left):
                    self.assertEqual(found.word, "unsure")
                    continue
                self.assertEqual(found, Taken("plain", holds(plain_form(left, right)[0], least)))
                self.assertIsInstance(found.paper, Holds)

    def test_fails(self):
        found = judged(("and", X, LOW), X, 1)
        self.assertEqual(found, NotTaken(2, [("x", found.names[0][1])], (), ()))
        self.assertIn(found.names[0][1], (2, 3))
        found = judged(("if", P, X, Y), X, 3)
        self.assertEqual((found.width, [pair[0] for pair in found.names], found.flags, found.memory), (3, ["x", "y"], (("p", False),), ()))
        found = judged(P, Q, 1)
        self.assertEqual((found.word, found.width, found.names), ("nottaken", 1, ()))
        self.assertNotEqual(found.flags[0][1], found.flags[1][1])
        self.assertEqual(judged(TRUE, FALSE, 4), NotTaken(4, (), (), ()))

    def test_memory(self):
        found = judged(("at", X), ("at", Y), 2)
        self.assertEqual((found.word, found.width), ("nottaken", 2))
        told = {name(key): word for key, word in found.names}
        self.assertNotEqual(worth(("at", X), 2, told, dict(found.memory)), worth(("at", Y), 2, told, dict(found.memory)))
        self.assertTrue(found.memory)
        found = judged(("at", number(0)), number(0), 1)
        self.assertEqual(found, NotTaken(1, (), (), [(0, 1)]))

    def test_what_falls_out(self):
        # y and q stand in the terms, not in their plain form.
        left = ("and", ("mul", X, Y), X)
        self.assertEqual(judged(left, X, 1), NotTaken(1, [("x", 1), ("y", 0)], (), ()))
        other = ("mul", ("sub", Y, Y), ("mul", Y, ("if", Q, Y, Y)))
        self.assertEqual(plain_form(other, ("and", X, number(0)))[0], ("eq", number(0), ("and", X, number(0))))
        found = judged(other, ("and", X, LOW), 1)
        self.assertEqual(found, NotTaken(1, [("x", 1), ("y", 0)], [("q", False)], ()))
        self.assertEqual(judged(("add", other, ("and", X, number(0))), number(0), 1).word, "taken")

    def test_unsure(self):
        for left, right in (
            (("and", XX, number(2)), number(0)), (("call f 0", X), ("call f 0", Y)), (("and", X, ("call f 0",)), X), (("flip", ("loop f 0", X, X)), X),
            (("and", ("mul", X, ("add", X, LOW)), LOW), number(0)), (("call f 0", X), X), (("and", X, LOW), ("add", X, ("call f 0",))),
        ):
            found = judged(left, right, 1)
            self.assertEqual(found, Unsure(holds(plain_form(left, right)[0], 1)))
            self.assertIsInstance(found.paper, Fails)

    def test_sums_with_a_call_are_no_sums(self):
        self.assertEqual(judged(("add", ("call f 0",), X), ("add", X, ("call f 0",)), 1).way, "plain")
        self.assertEqual(judged(X, ("add", X, ("and", Y, number(0))), 1).way, "plain")

    def test_drawn(self):
        rng = random.Random(22)
        draw = DrawCalls(rng, [X, Y, P, number(0), number(1), number(2)], ["add", "mul", "and", "or", "at", "if", "eq", "no", "shl 1"], [UP])
        seen = {"taken": 0, "nottaken": 0, "unsure": 0}
        for _ in range(400):
            wanted = rng.choice(["word", "word", "truth"])
            left, right, least = draw.term(wanted, rng.randint(1, 7)), draw.term(wanted, rng.randint(1, 7)), rng.randint(1, 2)
            if is_sum(left) and is_sum(right):
                continue
            try:
                found = judged(left, right, least)
            except TooMany:
                continue
            seen[found.word] += 1
            self.look_at(left, right, least, found)
        self.assertGreater(min(seen.values()), 20)

    def look_at(self, left, right, least, found):
        """Looks whether an answer is so, by trials."""
        self.assertTrue(has_no_list(found.parts))
        self.assertTrue(shows_judged(left, right, least, found))
        if found.word == "taken":
            for width in range(least, 4):
                for told in all_told([leaf for leaf in (X, Y, P) if leaf in subterms(left) + subterms(right)], width):
                    memory = {address: (address * 3 + 1) % 2 ** width for address in range(2 ** width)}
                    self.assertEqual(worth(left, width, told, memory, [UP], 2), worth(right, width, told, memory, [UP], 2))
        elif found.word == "nottaken":
            self.assertFalse(has_calls(left, right))
            self.assertEqual([pair[0] for pair in found.names], names_of(left, right))
            self.assertEqual([pair[0] for pair in found.flags], flags_of(left, right))
            told = {**{name(key): word for key, word in found.names}, **{flag(key): truth for key, truth in found.flags}}
            values = [worth(term, found.width, told, dict(found.memory)) for term in (left, right)]
            self.assertNotEqual(values[0], values[1])
        else:
            fails = found.paper
            self.assertFalse(plain_value(plain_form(left, right)[0], fails.width, fails.names, fails.flags, fails.memory))


class TestErrors(Raises, unittest.TestCase):
    def test_parameters(self):
        over = balanced("mul", [balanced("add", [X] * 40)] * 2)
        for action in (judged, lambda left, right, least: shows_judged(left, right, least, None)):
            for bad in STRANGE + [5, "x", (), ("add", X)]:
                self.check_part(BadTerm, "left", action, bad, bad, 0)
                self.check_part(BadTerm, "right", action, over, bad, 0)
            for bad in STRANGE + [0, 9, "1"]:
                self.check_part(BadNumber, "least", action, over, P, bad)
            self.check_part(Misfit, "kind", action, over, P, 1)
            self.check_part(Misfit, "kind", action, P, over, 8)

    def test_too_many(self):
        over = balanced("mul", [balanced("add", [X] * 40)] * 2)
        great = ("mul", ("shl 31", X), X)
        five = balanced("and", [name(f"a{index}") for index in range(5)])
        heavy = ("add", ("shl 8", ("and", X, X)), X)
        long = ("and", X, number(2 ** 17))
        cases = [
            (("and", great, over), "monomials", 1000), (("and", great, five), "number", 2147483647), (("and", five, heavy), "names", 4),
            (("and", heavy, long), "weight", 256), (long, "depth", 16),
        ]
        for left, what, most in cases:
            for action in (judged, lambda left, right, least: shows_judged(left, right, least, None)):
                self.check(TooMany, {"what": what, "most": most}, action, left, Z if what in ("monomials", "number") else X, 1)
                self.check(TooMany, {"what": what, "most": most}, action, ("at", left), X, 1)

    def test_lists_and_names(self):
        self.assertEqual(judged(least=1, right=as_lists(X), left=as_lists(("and", X, X))), judged(("and", X, X), X, 1))

    def test_papers(self):
        for paper, word, parts, keys in (
            (Taken("sums", [[["x"], 2]]), "taken", ("sums", ((("x",), 2),)), ("way", "paper")),
            (NotTaken(1, [["x", 2]], None, {}), "nottaken", (1, (("x", 2),), None, {}), ("width", "names", "flags", "memory")),
            (Unsure([5]), "unsure", ((5,),), ("paper",)),
        ):
            self.assertEqual((paper.word, paper.parts), (word, parts))
            self.assertEqual(tuple(getattr(paper, key) for key in keys), parts)
            self.assertIs(bool(paper), word == "taken")
            self.assertIs(isinstance(paper, Denial), word != "taken")
            self.assertIsInstance(paper, Paper)
        self.assertEqual(Taken(paper=1, way=2), Taken(2, 1))
        self.assertNotEqual(Unsure(5), Paper("unsure", 5))


if __name__ == "__main__":
    unittest.main()
