"""Leads, their sides, whether they hold, their rules, and papers about them."""

import unittest

from helpers import FALSE, P, STRANGE, TRUE, X, Y, Raises, has_no_list, name, number
from leastequal.check_leads import shows_led
from leastequal.check_rules import shows_judged
from leastequal.errors import BadLead, BadProgram, Impossible, Misfit, NoFunction, TooMany
from leastequal.leads import Lead, Led, NotLed, lead_rules, led, sides_of
from leastequal.meaning import value
from leastequal.papers import Denial, Paper
from leastequal.program import Function, Program
from leastequal.rules import NotTaken, Rule, Taken, Unsure, judged
from leastequal.term_texts import read_term
from slow_rules import balanced

A, B, I = name("a"), name("b"), name("i")


def function(spelling, parameters, *results):
    return Function(spelling, parameters.split(), [read_term(result) for result in results])


UP = function("up", "i", "( add i 1 )")
TWO = function("two", "t", "( add t 2 )")
PAIR = function("pair", "a b", "( add a 1 )", "( add b a )")
SWAP = function("swap", "a b", "b", "a")
SQUARE = function("square", "s", "( mul s s )")
USES = function("uses", "u", "( call up 0 ( call up 0 u ) )")
NONE = function("none", "", "7")
FEW = function("few", "a b", "a")
MORE = function("more", "a", "a", "a")
COUNT = function("counts", "count", "( add count 1 )")
COUNTS = function("countss", "count1 count count2", "count", "count1", "count2")
WHOLE = Program(3, 5, [UP, TWO, PAIR, SWAP, SQUARE, USES, NONE, FEW], [], [])
OTHER = Program(1, 3, [UP, MORE, COUNT, COUNTS, SWAP], [], [])
DOUBLE = Lead("double", "up", "two", [("shl 1", I)])


def lead(one, other, *terms):
    return Lead("lead", one, other, [read_term(term) for term in terms])


class TestLead(Raises, unittest.TestCase):
    def test_keeps(self):
        terms = [["shl 1", ["name", "i"]], ["number", 3]]
        one = Lead("0a", "up", "two", terms)
        terms[0][0] = "neg"
        terms.pop()
        self.assertEqual((one.name, one.one, one.other, one.terms), ("0a", "up", "two", (("shl 1", I), number(3))))
        self.assertTrue(has_no_list(one.terms))
        self.assertTrue(one == Lead(terms=(("shl 1", I), number(3)), other="two", one="up", name="0a"))

    def test_equality(self):
        for one in (Lead("a", "up", "two", [("shl 1", I)]), Lead("double", "upp", "two", [("shl 1", I)]), Lead("double", "up", "tw", [("shl 1", I)]),
                    Lead("double", "up", "two", [I]), Lead("double", "up", "two", [("shl 1", I), I]), 5, None):
            self.assertFalse(DOUBLE == one)

    def test_names(self):
        for good in ("a", "0", "a" * 12, "9z", "fold", "true"):
            self.assertEqual(Lead(good, "up", "two", [I]).name, good)
        for bad in STRANGE + [5, "", "a" * 13, "a b", "A", "a_", " a"]:
            self.check_part(BadLead, "name", Lead, bad, "", "", [])

    def test_functions(self):
        for bad in STRANGE + [5, "", "a" * 9, "0a", "A", "true", "false", "a b"]:
            self.check_part(BadLead, "one", Lead, "a", bad, "", [])
            self.check_part(BadLead, "other", Lead, "a", "up", bad, [])

    def test_terms(self):
        edge = balanced("add", [I] * 10)
        whole = ("neg", edge)
        for good in ([I], [whole] * 6, [number(5)], [("at", ("if", ("eq", I, I), I, I))], [I, X, Y]):
            self.assertEqual(Lead("a", "up", "two", good).terms, tuple(good))
        bad = [
            [], [I] * 7, [("neg", whole)], [P], [TRUE], [FALSE], [("if", P, I, I)], [("call up 0", I)], [("add", I, ("loop up 0", I, I))], [("eq", I, I)],
            [I, 5], ("neg", I), [("add", I)], I, {I: 1}, [I, ("neg", whole)],
        ]
        for one in STRANGE + bad + [5, "i"]:
            self.check_part(BadLead, "terms", Lead, "a", "up", "two", one)


class TestSides(Raises, unittest.TestCase):
    def test_sides(self):
        one = lead("pair", "swap", "( mul a b )", "b")
        sides = sides_of(WHOLE, one)
        self.assertTrue(has_no_list(sides))
        told = (read_term("( mul a b )"), B)
        self.assertEqual(sides, ((told[1], read_term("( mul ( add a 1 ) ( add b a ) )")), (told[0], read_term("( add b a )"))))
        # Parameters of one that are spelt as those of other are not put in twice.
        self.assertEqual(sides_of(WHOLE, lead("swap", "pair", "b", "( neg a )")), (
            (read_term("( add b 1 )"), A), (read_term("( add ( neg a ) b )"), read_term("( neg b )")),
        ))

    def test_unlike_numbers_of_parameters(self):
        self.assertEqual(sides_of(WHOLE, lead("pair", "up", "( add a b )")), ((read_term("( add ( add a b ) 1 )"), read_term("( add ( add a 1 ) ( add b a ) )")),))
        self.assertEqual(len(sides_of(WHOLE, lead("up", "pair", "i", "5"))), 2)

    def test_errors(self):
        for bad in STRANGE + [5, "p"]:
            for action in (sides_of, led, lead_rules, lambda program, lead: shows_led(program, lead, 5)):
                self.check_part(BadProgram, "program", action, bad, bad)
                self.check_part(BadLead, "lead", action, WHOLE, bad)

    def test_no_function(self):
        for action in (sides_of, led, lead_rules, lambda program, lead: shows_led(program, lead, 5)):
            self.check(NoFunction, {"value": "gone"}, action, WHOLE, lead("gone", "away", "x", "x"))
            self.check(NoFunction, {"value": "away"}, action, WHOLE, lead("few", "away", "x", "x"))
            self.check(NoFunction, {"value": "gone"}, action, WHOLE, lead("gone", "few", "x"))

    def test_misfit(self):
        for action in (sides_of, led, lead_rules, lambda program, lead: shows_led(program, lead, 5)):
            for bad in ("few", "none"):
                self.check_part(Misfit, "one", action, WHOLE, lead(bad, "few", "x", "x", "x"))
                self.check_part(Misfit, "other", action, WHOLE, lead("up", bad, "x", "x", "x"))
            self.check_part(Misfit, "one", action, OTHER, lead("more", "more", "x"))
            self.check_part(Misfit, "other", action, OTHER, lead("up", "more", "x"))
            self.check_part(Misfit, "terms", action, WHOLE, lead("up", "two", "i", "i"))
            self.check_part(Misfit, "terms", action, WHOLE, lead("up", "pair", "i"))
            self.check_part(Misfit, "terms", action, WHOLE, lead("up", "two", "t"))
            self.check_part(Misfit, "terms", action, WHOLE, lead("up", "pair", "i", "( add i b )"))


class TestLed(Raises, unittest.TestCase):
    def test_holds(self):
        for one in (DOUBLE, lead("up", "up", "i"), lead("pair", "up", "a"), lead("swap", "swap", "b", "a"), lead("swap", "swap", "( and a b )", "( and a b )"),
                    lead("two", "uses", "t"), lead("two", "uses", "( mul t 1 )"), lead("swap", "swap", "( mul a b )", "( mul b a )")):
            found = led(WHOLE, one)
            if one.other == "uses":
                self.assertEqual(found, NotLed(0, judged(*sides_of(WHOLE, one)[0], 3)))
                self.assertIsInstance(found.paper, Unsure)
                continue
            self.assertEqual(found, Led([judged(before, behind, 3) for before, behind in sides_of(WHOLE, one)]))
            self.assertTrue(found and all(isinstance(paper, Taken) for paper in found.papers))

    def test_does_not_hold(self):
        for one, index in ((lead("up", "two", "i"), 0), (lead("pair", "swap", "a", "b"), 0), (lead("swap", "swap", "a", "a"), 0),
                           (lead("pair", "pair", "a", "a"), 1), (lead("pair", "pair", "a", "( add b 1 )"), None), (lead("pair", "pair", "a", "( shl 1 b )"), 1)):
            found = led(WHOLE, one)
            if index is None:
                self.assertTrue(found)
                continue
            self.assertEqual(found, NotLed(index, judged(*sides_of(WHOLE, one)[index], 3)))
            self.assertIsInstance(found.paper, NotTaken)

    def test_least(self):
        # At width 1 and 2 the number 4 is 0.
        other = function("other", "t", "( add t ( if ( eq 4 0 ) 1 2 ) )")
        for least, holds in ((1, False), (2, False), (3, True), (8, True)):
            self.assertIs(bool(led(Program(least, 5, [TWO, other], [], []), lead("two", "other", "t"))), holds)

    def test_too_many(self):
        wide = function("wide", "a b c d e", "( and a ( and b ( and c ( and d e ) ) ) )", "b", "c", "d", "e")
        program = Program(1, 1, [wide, UP, SQUARE], [], [])
        one = lead("wide", "up", "( or a 0 )")
        for action in (led, lead_rules):
            self.check(TooMany, {"what": "names", "most": 4}, action, program, one)
        self.check(TooMany, {"what": "names", "most": 4}, shows_led, program, one, NotLed(0, NotTaken(1, (), (), ())))
        self.assertIs(shows_led(program, one, 5), False)
        self.assertIs(shows_led(program, one, Led(())), False)

    def test_papers(self):
        for paper, word, parts in ((Led([[1]]), "led", (((1,),),)), (NotLed([0], 5), "notled", ((0,), 5))):
            self.assertEqual((paper.word, paper.parts, bool(paper)), (word, parts, word == "led"))
        self.assertEqual((NotLed(paper=[5], index=1).paper, NotLed(1, 2).index, Led(papers=3).papers), ((5,), 1, 3))
        self.assertTrue(isinstance(NotLed(1, 1), Denial) and not isinstance(Led(1), Denial))


class TestLeadRules(Raises, unittest.TestCase):
    def test_rules(self):
        self.assertEqual(lead_rules(WHOLE, DOUBLE), (Rule("lead double 0", read_term("( shl 1 ( loop up 0 count i ) )"), read_term("( loop two 0 count ( shl 1 i ) )"), 2),))
        swap = lead("swap", "swap", "( and a b )", "( and b a )")
        left, right = "( and ( loop swap {} count a b ) ( loop swap {} count a b ) )", "( loop swap {} count ( and a b ) ( and b a ) )"
        self.assertEqual(lead_rules(WHOLE, swap), (
            Rule("lead lead 0", read_term(left.format(0, 1)), read_term(right.format(0)), 2), Rule("lead lead 1", read_term(left.format(1, 0)), read_term(right.format(1)), 2),
        ))

    def test_ways(self):
        self.assertEqual([rule.ways for rule in lead_rules(WHOLE, lead("pair", "up", "a"))], [1])
        self.assertEqual([rule.ways for rule in lead_rules(WHOLE, lead("swap", "swap", "a", "b"))], [2, 2])
        both = lead("swap", "swap", "( and a a )", "( and b b )")
        self.assertEqual([rule.ways for rule in lead_rules(WHOLE, both)], [2, 2])

    def test_a_term_without_names(self):
        still = function("still", "a b", "a", "b")
        program = Program(2, 5, [still, UP], [], [])
        rules = lead_rules(program, lead("still", "still", "5", "( add a 5 )"))
        self.assertEqual([(rule.name, rule.ways) for rule in rules], [("lead lead 1", 1)])
        self.assertEqual(rules[0].right, read_term("( loop still 1 count 5 ( add a 5 ) )"))
        self.assertEqual(lead_rules(program, lead("up", "still", "3", "4")), ())

    def test_count(self):
        rule, = lead_rules(OTHER, lead("counts", "up", "count"))
        self.assertEqual((rule.left, rule.right), (read_term("( loop counts 0 count1 count )"), read_term("( loop up 0 count1 count )")))
        rules = lead_rules(OTHER, lead("countss", "countss", "count1", "count", "count2"))
        self.assertEqual(rules[0].left, read_term("( loop countss 0 count3 count1 count count2 )"))
        # In other such a name does not matter.
        rule, = lead_rules(OTHER, lead("up", "counts", "i"))
        self.assertEqual(rule.right, read_term("( loop counts 0 count i )"))

    def test_great_sides(self):
        still = function("still", "a b c d e f", "a", "b", "c", "d", "e", "f")
        program = Program(1, 1, [still], [], [])
        term = ("neg", balanced("add", [name(key) for key in "abcdefabcd"]))
        rules = lead_rules(program, Lead("a" * 12, "still", "still", [term] * 6))
        self.assertEqual([rule.ways for rule in rules], [2] * 6)

    def test_impossible(self):
        for one in (lead("up", "two", "i"), lead("pair", "pair", "a", "a"), lead("two", "uses", "t")):
            with self.assertRaises(Impossible) as caught:
                lead_rules(WHOLE, one)
            self.assertEqual(caught.exception.paper, led(WHOLE, one))

    def test_same_value(self):
        for one in (DOUBLE, lead("pair", "up", "a"), lead("swap", "swap", "( and a b )", "( mul b a )")):
            if not led(WHOLE, one):
                continue
            for rule in lead_rules(WHOLE, one):
                for count in range(8):
                    told = {"count": count, "a": 5, "b": 6, "i": 3}
                    self.assertEqual(value(WHOLE, rule.left, 3, told, {}), value(WHOLE, rule.right, 3, told, {}))


class TestShowsLed(Raises, unittest.TestCase):
    def test_told_ones(self):
        for one in (DOUBLE, lead("pair", "up", "a"), lead("pair", "pair", "a", "a"), lead("two", "uses", "t"), lead("swap", "swap", "( and a b )", "( and b a )")):
            self.assertIs(shows_led(WHOLE, one, led(WHOLE, one)), True)
            self.assertIs(shows_led(WHOLE, one, Paper(led(WHOLE, one).word, *led(WHOLE, one).parts)), False)

    def test_bent_led(self):
        one = lead("pair", "pair", "a", "( add b 1 )")
        papers = led(WHOLE, one).papers
        self.assertIs(shows_led(WHOLE, one, Led(list(papers))), True)
        for bent in (papers[:1], papers[1:], papers * 2, papers[::-1], (), (papers[0], papers[0]), (papers[0], 5), (papers[0], None), None, 5, "ab", papers[0], {0: 1, 1: 2}):
            self.assertIs(shows_led(WHOLE, one, Led(bent)), False)
        for bent in (NotLed(0, papers[0]), NotLed(1, papers[1]), papers, *STRANGE):
            self.assertIs(shows_led(WHOLE, one, bent), False)

    def test_bent_not_led(self):
        one = lead("swap", "swap", "a", "a")
        found = [judged(before, behind, 3) for before, behind in sides_of(WHOLE, one)]
        self.assertEqual([paper.word for paper in found], ["nottaken", "nottaken"])
        for index in (0, 1):
            self.assertIs(shows_led(WHOLE, one, NotLed(index, found[index])), True)
        self.assertIs(shows_led(WHOLE, one, NotLed(0, NotTaken(9, [("a", 1), ("b", 400)], (), ()))), True)
        for index in (2, -1, True, False, 0.0, "0", None):
            self.assertIs(shows_led(WHOLE, one, NotLed(index, found[0])), False)
        for paper in (NotTaken(2, [("a", 0), ("b", 1)], (), ()), NotTaken(3, [("a", 1), ("b", 1)], (), ()), found, None, 5, Unsure(found[0]), Taken("sums", ())):
            self.assertIs(shows_led(WHOLE, one, NotLed(0, paper)), False)
        self.assertIs(shows_led(WHOLE, one, Led(found)), False)

    def test_a_paper_of_other_sides(self):
        one = lead("pair", "pair", "a", "( shl 1 b )")
        found = led(WHOLE, one)
        self.assertEqual(found.index, 1)
        self.assertIs(shows_led(WHOLE, one, NotLed(0, found.paper)), False)
        self.assertIs(shows_led(WHOLE, DOUBLE, found), False)
        self.assertIs(shows_led(WHOLE, one, NotLed(0, judged(*sides_of(WHOLE, one)[0], 3))), False)

    def test_any_parameter(self):
        one = lead("pair", "pair", "a", "( shl 1 b )")
        self.assertTrue(shows_judged(*sides_of(WHOLE, one)[1], 3, led(WHOLE, one).paper))
        two = lead("swap", "pair", "b", "( shl 1 b )")
        for index in (0, 1):
            self.assertIs(shows_led(WHOLE, two, NotLed(index, judged(*sides_of(WHOLE, two)[index], 3))), True)
        self.assertIs(shows_led(value=led(WHOLE, two), lead=two, program=WHOLE), True)

    def test_unsure(self):
        one = lead("two", "uses", "t")
        found = led(WHOLE, one).paper
        self.assertIs(shows_led(WHOLE, one, NotLed(0, Unsure(found.paper))), True)
        self.assertIs(shows_led(WHOLE, one, NotLed(0, NotTaken(3, [("t", 0)], (), ()))), False)


if __name__ == "__main__":
    unittest.main()
