"""Functions and programs."""

import unittest
from helpers import FALSE, P, STRANGE, TRUE, X, Y, Z, Raises, as_lists, has_no_list, name, number

from leastequal.errors import BadNumber, BadProgram, BadTerm, Misfit, NoFunction, Twice
from leastequal.program import Function, Program, terms_of, unfit, with_terms

NAMES = ["a", "b", "c", "d", "e", "f", "g", "h", "i"]
NO_NAMES = ["", "true", "false", "X", "1x", "x23456789", "x y", "?p", "#0", 3, ("x",), ["x"], b"x", None, True]


def deep(levels):
    term = X
    for _ in range(levels - 1):
        term = ("neg", term)
    return term


def sized(size):
    """A word term of this size, within 30 levels."""
    if size <= 2:
        return X if size == 1 else ("neg", X)
    half = (size - 1) // 2
    return ("add", sized(half), sized(size - 1 - half))


def step(word="step"):
    return Function(word, ["x", "y"], [Y, ("add", X, Y)])


def nested(depth, inner=()):
    """A list of one deed, with deeds in it, of this depth."""
    deeds = list(inner)
    for _ in range(depth):
        deeds = [("while", TRUE, deeds)]
    return deeds


def program_of(deeds, functions=()):
    return Program(1, 0, functions, [], deeds)


class TestFunction(Raises, unittest.TestCase):
    def test_attributes(self):
        made = Function("step", ["x", "y"], [["name", "y"], ("add", X, ["name", "x"])])
        self.assertEqual((made.name, made.parameters, made.results), ("step", ("x", "y"), (Y, ("add", X, X))))
        self.assertTrue(has_no_list(made.results))
        made = Function(results=(number(1),), parameters=(), name="one")
        self.assertEqual((made.name, made.parameters, made.results), ("one", (), (number(1),)))

    def test_no_name(self):
        for value in [*NO_NAMES, *STRANGE]:
            self.check_part(BadProgram, "name", Function, value, ["x"], [X])
            self.check_part(BadProgram, "name", Function, value, None, None)

    def test_parameters(self):
        self.assertEqual(Function("f", NAMES[:6], [number(0)]).parameters, tuple(NAMES[:6]))
        wrong = [*STRANGE, "xy", {"x": 1}, NAMES[:7], ["x"] * 7, *[["x", value] for value in NO_NAMES]]
        for value in wrong:
            self.check_part(BadProgram, "parameters", Function, "f", value, [number(0)])
            self.check_part(BadProgram, "parameters", Function, "f", value, "no results")

    def test_twice(self):
        self.check(Twice, {"value": "b"}, Function, "f", ["a", "b", "b", "a"], [X])
        self.check(Twice, {"value": "a"}, Function, "f", ("a", "b", "a", "b"), "no results")

    def test_results(self):
        self.assertEqual(len(Function("f", ["x"], [X] * 6).results), 6)
        wrong = [
            *STRANGE, "x", X, {}, [], [X] * 7, [Y], [X, ("add", X, Y)], [P], [TRUE], [("eq", X, X)], [("if", P, X, X)],
            [("if", ("eq", X, X), X, ("if", P, X, X))], [X, ("neg", P)], ["x"], [("name", "true")], [[]], [None],
        ]
        for value in wrong:
            self.check_part(BadProgram, "results", Function, "f", ["x"], value)
        self.check_part(BadProgram, "results", Function, "f", ["y"], [X])

    def test_results_at_their_rims(self):
        for size in (1999, 2000):
            self.assertEqual(len(Function("f", ["x"], [sized(size)]).results), 1)
        self.check_part(BadProgram, "results", Function, "f", ["x"], [X, sized(2001)])
        self.assertEqual(len(Function("f", ["x"], [deep(30)]).results), 1)
        self.check_part(BadProgram, "results", Function, "f", ["x"], [X, deep(31)])

    def test_calls_are_let(self):
        self.assertEqual(len(Function("f", ["x"], [("call f 0", X), ("loop go 5", X, X, X)]).results), 2)

    def test_equality(self):
        self.assertTrue(step() == Function("step", ("x", "y"), (["name", "y"], ["add", X, Y])))
        others = [
            step("other"), Function("step", ["y", "x"], [Y, ("add", X, Y)]), Function("step", ["x", "y"], [Y]), "step",
            None, program_of([]), ("step", ("x", "y"), (Y, ("add", X, Y))),
        ]
        for other in others:
            self.assertIs(step() == other, False)
            self.assertIs(step() != other, True)

    def test_what_is_passed_may_change_later(self):
        parameters, results = ["x"], [["neg", ["name", "x"]]]
        made = Function("f", parameters, results)
        parameters.append("y")
        results[0][0] = "flip"
        results.append(3)
        self.assertEqual(made, Function("f", ["x"], [("neg", X)]))


class TestProgram(Raises, unittest.TestCase):
    def test_attributes(self):
        deeds = [["set", "a", ["neg", X]], ("when", ["eq", X, Y], [["ask", "b"]], [])]
        made = Program(2, 10, [step()], ["x", "y"], deeds)
        self.assertEqual((made.least, made.rounds, made.functions, made.inputs), (2, 10, (step(),), ("x", "y")))
        self.assertEqual(made.deeds, (("set", "a", ("neg", X)), ("when", ("eq", X, Y), (("ask", "b"),), ())))
        self.assertTrue(has_no_list(made.deeds))
        self.assertEqual(Program(deeds=[], inputs=(), functions=(), rounds=0, least=1), program_of([]))

    def test_numbers(self):
        for least in (1, 8):
            for rounds in (0, 1000):
                self.assertEqual(Program(least, rounds, [], [], []).rounds, rounds)
        for least in [0, 9, -1, 10 ** 99, "1", [1], *STRANGE]:
            self.check_part(BadNumber, "least", Program, least, None, None, None, None)
        for rounds in [-1, 1001, "1", [1], *STRANGE]:
            self.check_part(BadNumber, "rounds", Program, 1, rounds, None, None, None)

    def test_functions(self):
        eight = [Function(one, [], [number(0)]) for one in NAMES[:8]]
        self.assertEqual(len(Program(1, 0, eight, [], []).functions), 8)
        nine = [*eight, Function("z", [], [number(0)])]
        for value in [*STRANGE, "f", {}, step(), [step(), "f"], [("f", [], [number(0)])], nine, [step()] * 9]:
            self.check_part(BadProgram, "functions", Program, 1, 0, value, None, None)

    def test_inputs(self):
        self.assertEqual(Program(1, 0, [], NAMES[:6], []).inputs, tuple(NAMES[:6]))
        for value in [*STRANGE, "xy", {"x": 1}, NAMES[:7], ["x"] * 7, *[["x", one] for one in NO_NAMES]]:
            self.check_part(BadProgram, "inputs", Program, 1, 0, [], value, None)
            self.check_part(BadProgram, "inputs", Program, 1, 0, [step(), step()], value, [])

    def test_twice(self):
        functions = [step("a"), step("b"), step("b"), step("a")]
        self.check(Twice, {"value": "b"}, Program, 1, 0, functions, ["x", "x"], [])
        self.check(Twice, {"value": "y"}, Program, 1, 0, [step()], ["x", "y", "y", "x"], [("tell", ("call go 0",))])
        self.check_part(BadProgram, "deeds", Program, 1, 0, functions, ["x", "x"], [("tell",)])
        self.assertEqual(Program(1, 0, [step("x")], ["x"], []).inputs, ("x",))

    def test_deeds_of_a_wrong_form(self):
        wrong = [
            (), ("set",), ("set", "x"), ("set", "x", X, X), ("set", X, X), ("set", "true", X), ("set", "X", X),
            ("set", "x", P), ("set", "x", TRUE), ("set", "x", ("if", P, X, X)), ("set", "x", "x"), ("put", X),
            ("put", X, P), ("put", TRUE, X), ("put", X, X, X), ("tell",), ("tell", P), ("tell", X, X), ("tell", 3),
            ("ask",), ("ask", X), ("ask", "false"), ("ask", "x", "y"), ("ask", 1), ("when", X, [], []), ("when", P, [], []),
            ("when", TRUE, []), ("when", TRUE), ("when", TRUE, [], [], []), ("when", TRUE, None, []), ("when", TRUE, [], {}),
            ("when", TRUE, [()], []), ("when", ("eq", X, ("if", P, X, X)), [], []), ("while", X, []), ("while", TRUE),
            ("while", TRUE, [], []), ("while", TRUE, "ask"), ("go",), ("go", X), ("Set", "x", X), (3,), (None, X),
            (("set",), "x", X), (["ask"], "x"), "ask", "ask x", {"ask": "x"}, 3, None, True, X, [X], [("ask", "x")],
        ]
        for deed in wrong:
            for depth in (0, 1, 3):
                for deeds in (nested(depth, [deed]), nested(depth, [("ask", "x"), deed]), [("when", TRUE, [], nested(depth, [deed]))]):
                    self.check_part(BadProgram, "deeds", program_of, deeds)
                    self.check_part(BadProgram, "deeds", program_of, as_lists(deeds))
        for deeds in [*STRANGE, "ask", {}, ("ask", "x"), X]:
            self.check_part(BadProgram, "deeds", program_of, deeds)

    def test_how_many_deeds(self):
        self.assertEqual(len(program_of([("ask", "x")] * 60).deeds), 60)
        self.check_part(BadProgram, "deeds", program_of, [("ask", "x")] * 61)
        inner = [("when", TRUE, [("ask", "x")] * 20, [("ask", "y")] * 19), ("while", FALSE, [("ask", "x")] * 18)]
        self.assertEqual(len(program_of([*inner, ("ask", "x")]).deeds), 3)
        self.check_part(BadProgram, "deeds", program_of, [*inner, ("ask", "x"), ("ask", "x")])
        self.check_part(BadProgram, "deeds", program_of, nested(1, [("ask", "x")] * 60))

    def test_depth(self):
        self.assertEqual(len(program_of(nested(6)).deeds), 1)
        self.assertEqual(len(program_of(nested(5, [("ask", "x")])).deeds), 1)
        self.check_part(BadProgram, "deeds", program_of, nested(7))
        self.check_part(BadProgram, "deeds", program_of, nested(6, [("ask", "x")]))
        self.check_part(BadProgram, "deeds", program_of, [("when", TRUE, [], nested(6))])
        self.assertEqual(len(program_of([("when", TRUE, [], nested(5))]).deeds), 1)
        self.check_part(BadProgram, "deeds", program_of, nested(45))

    def test_terms_at_their_rims(self):
        for wrong, right in ((deep(31), deep(30)), (sized(2001), sized(2000))):
            for make in (
                lambda term: ("set", "x", term), lambda term: ("put", term, X), lambda term: ("put", X, term),
                lambda term: ("tell", term),
            ):
                self.assertEqual(len(program_of([make(right)]).deeds), 1)
                self.check_part(BadProgram, "deeds", program_of, [make(wrong)])
                self.check_part(BadProgram, "deeds", program_of, nested(2, [make(wrong)]))
        for word in ("when", "while"):
            rest = [[], []] if word == "when" else [[]]
            self.assertEqual(len(program_of([(word, ("eq", deep(29), X), *rest)]).deeds), 1)
            self.check_part(BadProgram, "deeds", program_of, [(word, ("eq", deep(30), X), *rest)])
            self.assertEqual(len(program_of([(word, ("eq", sized(1998), X), *rest)]).deeds), 1)
            self.check_part(BadProgram, "deeds", program_of, [(word, ("eq", sized(1999), X), *rest)])

    def test_calls(self):
        one = Function("one", ["x"], [X])
        self.check(NoFunction, {"value": "f"}, program_of, [], [Function("f", ["x"], [("call f 0", X)])])
        self.check(NoFunction, {"value": "one"}, program_of, [], [Function("f", ["x"], [("call one 0", X)]), one])
        self.assertEqual(len(program_of([], [one, Function("f", ["x"], [("call one 0", X)])]).functions), 2)
        for wrong in (("call one 1", X), ("call one 0",), ("call one 0", X, X), ("loop one 0", X, X, X), ("loop one 1", X, X)):
            self.check_part(Misfit, "call", program_of, [], [one, Function("f", ["x"], [X, ("neg", wrong)])])
            self.check_part(Misfit, "call", program_of, nested(3, [("tell", wrong)]), [one])
        two = Function("two", ["x"], [X, X])
        self.check_part(Misfit, "call", program_of, [("tell", ("loop two 0", X, X))], [two])
        none = Function("none", [], [number(1)])
        self.check_part(Misfit, "call", program_of, [("tell", ("loop none 0", X, X))], [none])
        self.assertEqual(len(program_of([("tell", ("call none 0",))], [none]).deeds), 1)
        self.assertEqual(len(program_of([("tell", ("loop one 0", X, X))], [one]).deeds), 1)

    def test_the_first_wrong_call_by_terms(self):
        one = Function("one", ["x"], [X])
        gone, unfitting = ("call gone 0",), ("call one 5", X)
        inside = [Function("f", ["x"], [X, unfitting]), Function("g", ["x"], [gone])]
        self.check_part(Misfit, "call", program_of, [("tell", gone)], [one, *inside])
        self.check(NoFunction, {"value": "gone"}, program_of, [], [one, inside[1], inside[0]])
        self.check(NoFunction, {"value": "gone"}, program_of, [("tell", ("add", unfitting, gone))], [one])
        self.check_part(Misfit, "call", program_of, [("tell", unfitting), ("tell", gone)], [one])
        self.check(NoFunction, {"value": "gone"}, program_of, [("put", gone, unfitting)], [one])
        self.check_part(Misfit, "call", program_of, [("put", unfitting, gone)], [one])
        test, other = ("eq", X, gone), ("tell", unfitting)
        self.check(NoFunction, {"value": "gone"}, program_of, [("while", test, [other])], [one])
        self.check_part(Misfit, "call", program_of, [("when", TRUE, [other], [("tell", gone)])], [one])
        self.check(NoFunction, {"value": "gone"}, program_of, [("when", TRUE, [("tell", gone)], [other])], [one])
        self.check(NoFunction, {"value": "b"}, program_of, [("tell", ("add", ("call b 0", ("call a 0",)), ("call a 0",)))], [one])

    def test_equality(self):
        whole = Program(2, 10, [step()], ["x"], [("tell", X)])
        self.assertTrue(whole == Program(2, 10, (step(),), ("x",), [["tell", ["name", "x"]]]))
        others = [
            Program(1, 10, [step()], ["x"], [("tell", X)]), Program(2, 9, [step()], ["x"], [("tell", X)]),
            Program(2, 10, [], ["x"], [("tell", X)]), Program(2, 10, [step()], ["y"], [("tell", X)]),
            Program(2, 10, [step()], ["x"], [("tell", Y)]), Program(2, 10, [step("b")], ["x"], [("tell", X)]), step(), None, 2,
        ]
        for other in others:
            self.assertIs(whole == other, False)
            self.assertIs(whole != other, True)

    def test_what_is_passed_may_change_later(self):
        functions, inputs, deeds = [step()], ["x"], [["while", ["true"], [["tell", ["name", "x"]]]]]
        made = Program(2, 10, functions, inputs, deeds)
        functions.append(3)
        inputs[0] = "y"
        deeds[0][2][0][1][1] = "y"
        deeds[0][2].append(3)
        self.assertEqual(made, Program(2, 10, [step()], ["x"], [("while", TRUE, [("tell", X)])]))


class TestTerms(Raises, unittest.TestCase):
    def test_unfit(self):
        functions = [step(), Function("one", [], [number(1)])]
        for term in (X, P, ("call one 0",), ("loop step 1", X, X, X), ("eq", ("call step 0", X, ("call one 0",)), Y)):
            self.assertIsNone(unfit(functions, term))
            self.assertIsNone(unfit(tuple(functions), as_lists(term)))
        for label in ("call step 2", "call one 1", "loop one 0"):
            self.assertEqual(unfit(functions, ("neg", (label, X, Y))), ("call", label))
        self.assertEqual(unfit([], ("add", ("call b 0",), ("call a 0",))), ("function", "b"))
        self.assertEqual(unfit(functions, ("add", ("call one 5",), ("neg", ("loop go 0", X, X)))), ("function", "go"))
        self.assertEqual(unfit(functions, ("call step 3", ("call step 0",), X)), ("call", "call step 3"))
        self.assertEqual(unfit(functions, ("call step 0", ("call step 1",), ("call one 2",))), ("call", "call step 1"))
        self.assertEqual(unfit(functions, ("call true 0",)), ("function", "true"))
        self.assertEqual(unfit([step(one) for one in [*NAMES, *[f"{one}2" for one in NAMES]]], ("call i2 0",)), ("call", "call i2 0"))

    def test_unfit_errors(self):
        for value in [*STRANGE, "f", {}, step(), [step(), step()], [step(), None], [step(), ("f",)]]:
            self.check_part(BadProgram, "functions", unfit, value, "no term")
        for value in [*STRANGE, "x", (), ("neg", P)]:
            self.check_part(BadTerm, "term", unfit, [step()], value)

    def whole(self):
        inner = [("put", name("b"), name("c")), ("ask", "z"), ("while", ("eq", name("d"), X), [("tell", name("e"))])]
        deeds = [("set", "x", name("a")), ("when", ("lt", X, Y), inner, [("tell", name("f"))]), ("tell", name("g"))]
        return Program(2, 3, [step(), Function("one", [], [number(7)])], ["i"], deeds)

    def test_terms_of(self):
        wanted = (Y, ("add", X, Y), number(7), name("a"), ("lt", X, Y), name("b"), name("c"), ("eq", name("d"), X), name("e"), name("f"), name("g"))
        self.assertEqual(terms_of(self.whole()), wanted)
        self.assertEqual(terms_of(program_of([("ask", "x")])), ())
        for value in [*STRANGE, "x", step(), (1, 0, [], [], [])]:
            self.check_part(BadProgram, "program", terms_of, value)
            self.check_part(BadProgram, "program", with_terms, value, None)

    def test_with_terms(self):
        whole = self.whole()
        self.assertEqual(with_terms(whole, list(terms_of(whole))), whole)
        self.assertEqual(with_terms(whole, as_lists(terms_of(whole))), whole)
        terms = [X, number(0), number(1), *[name("z")] * 8]
        terms[4] = terms[7] = FALSE
        made = with_terms(whole, terms)
        self.assertEqual(terms_of(made), tuple(terms))
        self.assertEqual((made.least, made.rounds, made.inputs, made.deeds[1][2][1]), (2, 3, ("i",), ("ask", "z")))
        self.assertEqual([one.name for one in made.functions], ["step", "one"])
        self.assertEqual(whole, self.whole())

    def test_no_terms(self):
        whole = self.whole()
        terms = list(terms_of(whole))
        wrong = [*STRANGE, "x", {}, [], terms[:-1], [*terms, X]]
        for index, term in enumerate(terms):
            for other in (TRUE if term[0] not in ("eq", "lt") else X, ("neg", P), None, "x"):
                wrong.append([*terms[:index], other, *terms[index + 1:]])
        for value in wrong:
            self.check_part(BadTerm, "terms", with_terms, whole, value)

    def test_terms_that_do_not_fit(self):
        whole = self.whole()
        terms = list(terms_of(whole))

        def changed(index, term):
            return [*terms[:index], term, *terms[index + 1:]]

        self.check_part(BadProgram, "results", with_terms, whole, changed(1, Z))
        self.check_part(BadProgram, "results", with_terms, whole, changed(2, X))
        self.check_part(BadProgram, "results", with_terms, whole, changed(0, sized(2001)))
        self.check_part(BadProgram, "deeds", with_terms, whole, changed(5, deep(31)))
        self.check_part(BadProgram, "deeds", with_terms, whole, changed(4, P))
        self.check(NoFunction, {"value": "step"}, with_terms, whole, changed(0, ("call step 0", X, Y)))
        self.check(NoFunction, {"value": "one"}, with_terms, whole, changed(0, ("call one 0",)))
        self.check_part(Misfit, "call", with_terms, whole, changed(10, ("call one 1",)))
        self.assertEqual(terms_of(with_terms(whole, changed(2, ("call step 0", number(1), number(2)))))[2][0], "call step 0")


if __name__ == "__main__":
    unittest.main()
