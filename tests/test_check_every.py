"""Looking at papers that tell whether a truth holds at every width: right ones, and the same bent in one place."""

import random
import unittest
from helpers import P, STRANGE, TRUE, X, Y, as_lists, number
from slow_truths import Truth
from test_every import RIGHT, WRONG, drawn

from leastequal.check_every import shows_fails, shows_holds
from leastequal.every import Fails, Holds, holds
from leastequal.papers import Denial, Paper
from leastequal.term_texts import read_term, term_text

DOUBLE = read_term("( eq ( add x x ) ( shl 1 x ) )")
TABLES = (((), ((0, 0, 0, 1), (1, 0, 0, 1), (1, 1, 1, 1))),)


def changed(values, index, *others):
    """A tuple with other items in the place of the one at an index."""
    return (*values[:index], *others, *values[index + 1:])


class TestShowsHolds(unittest.TestCase):
    def judge(self, truth, least, tables, wanted):
        self.assertIs(shows_holds(truth, least, Holds(tables)), wanted, (term_text(truth), tables))
        self.assertIs(shows_holds(truth, least, Holds(as_lists(tables))), wanted)

    def test_what_holds_gives(self):
        for text, least in RIGHT:
            truth = read_term(text)
            self.judge(truth, least, holds(truth, least).tables, True)
            self.judge(truth, least, Truth(truth, least).tables(), True)
        self.judge(DOUBLE, 1, TABLES, True)
        self.assertIs(shows_holds(value=Holds(TABLES), least=1, truth=DOUBLE), True)

    def test_standings_that_are_not_reached(self):
        truth = read_term("( eq ( sub x x ) 0 )")
        self.judge(truth, 1, (((), ((0, 0, 1), (1, 0, 1))),), True)
        more = (((), ((0, 0, 0), (0, 0, 1), (1, 0, 1))),)
        self.judge(truth, 1, more, False)
        truth = read_term("( either ( eq x 0 ) ( no ( eq x 0 ) ) )")
        self.judge(truth, 1, holds(truth, 1).tables, True)
        self.judge(truth, 1, (((), ((0, 0), (0, 1), (1, 0), (1, 1))),), True)
        self.judge(truth, 1, (((), ((0, 0), (0, 1), (1, 1))),), False)

    def test_one_place_bent(self):
        for tables in (
            (), (TABLES[0], TABLES[0]), (((),),), (((), TABLES[0][1], ()),), ((TABLES[0][1], ()),), (((True,), TABLES[0][1]),),
            ((None, TABLES[0][1]),), (("", TABLES[0][1]),), ((0, TABLES[0][1]),), (((), ()),), (((), None),), (((), "x"),), (((), {}),), (((), 3),),
            TABLES[0], "", "x", None, 3, {}, {(): TABLES[0][1]}, [[[], [[]]]], [[[], [0]]], [[[], ["x"]]], [[]], [None], ["ab"],
        ):
            self.assertIs(shows_holds(DOUBLE, 1, Holds(tables)), False, tables)

    def test_standings_bent(self):
        some = TABLES[0][1]
        for index in range(3):
            self.judge(DOUBLE, 1, (((), changed(some, index)),), False)
            self.judge(DOUBLE, 1, (((), changed(some, index, some[index], some[index])),), False)
            for place in range(4):
                for value in (-1, 2, some[index][place] ^ 1, bool(some[index][place]), 1.0 * some[index][place], str(some[index][place]), None, (1,), 10 ** 99):
                    bent = changed(some[index], place, value)
                    if bent not in some or isinstance(value, (bool, float)):
                        self.assertIs(shows_holds(DOUBLE, 1, Holds((((), changed(some, index, bent)),))), False, bent)
            self.judge(DOUBLE, 1, (((), changed(some, index, some[index][:-1])),), False)
            self.judge(DOUBLE, 1, (((), changed(some, index, (*some[index], 0))),), False)
            self.judge(DOUBLE, 1, (((), changed(some, index, ())),), False)
        for order in ((1, 0, 2), (0, 2, 1), (2, 1, 0)):
            self.judge(DOUBLE, 1, (((), tuple(some[index] for index in order)),), False)
        self.judge(DOUBLE, 1, (((), (*some, (2, 0, 0, 1))),), False)
        self.judge(DOUBLE, 1, (((), (some[0], (1, 0, 0, 0), *some[1:])),), False)

    def test_a_bad_standing(self):
        truth = read_term("( eq x 0 )")
        self.judge(truth, 1, Truth(truth, 1).tables(), False)
        truth = read_term("( no ( eq 2 0 ) )")
        self.judge(truth, 1, Truth(truth, 1).tables(), False)
        self.judge(truth, 2, Truth(truth, 2).tables(), True)
        self.judge(truth, 3, Truth(truth, 2).tables(), False)

    def test_guesses_bent(self):
        truth = read_term("( eq ( if ?p ( if ( lt x y ) x y ) y ) ( if ?p ( if ( lt x y ) x y ) y ) )")
        tables = holds(truth, 1).tables
        self.assertEqual([guess for guess, _ in tables], [(False, False), (False, True), (True, False), (True, True)])
        self.judge(truth, 1, tables, True)
        for index in range(4):
            guess, some = tables[index]
            self.judge(truth, 1, changed(tables, index), False)
            self.judge(truth, 1, changed(tables, index, tables[index], tables[index]), False)
            for bent in ((guess[0],), (*guess, True), (not guess[0], guess[1]), (int(guess[0]), guess[1]), (guess[0], int(guess[1])), (guess[0], None), ()):
                self.judge(truth, 1, changed(tables, index, (bent, some)), False)
        self.judge(truth, 1, tables[::-1], False)
        self.judge(truth, 1, changed(changed(tables, 0, tables[1]), 1, tables[0]), False)

    def test_drawn_ones(self):
        rng, seen = random.Random(61), 0
        for _, truth, least in drawn(62, 150, (X, Y, P, TRUE, number(1), number(-2), number(0)), 12, 2):
            slow = Truth(truth, least)
            tables = slow.tables()
            self.judge(truth, least, tables, slow.holds())
            for _ in range(6):
                bent = self.bent(rng, slow, tables)
                wanted = slow.is_right(bent)
                seen += wanted
                self.judge(truth, least, bent, wanted)
        self.assertGreater(seen, 20)

    def bent(self, rng, slow, tables):
        index = rng.randrange(len(tables))
        guess, some = tables[index]
        place = rng.randrange(len(some))
        other = (rng.randint(0, slow.depth), *[rng.randint(*slow.bounds(piece)) for piece in slow.keepers])
        return changed(tables, index, (guess, rng.choice([
            changed(some, place), tuple(sorted({*some, other})), changed(some, place, other), tuple(sorted({*changed(some, place), other})),
            (*some, other), changed(some, place, some[place], some[place]),
        ])))

    def test_no_holds(self):
        for value in [*STRANGE, 3, "holds", TABLES, Paper("holds", TABLES), Denial("holds", TABLES), Fails(1, (), (), ()), {}, []]:
            self.assertIs(shows_holds(DOUBLE, 1, value), False)
        self.assertIs(shows_holds(DOUBLE, 2, Holds(TABLES)), False)

    def test_depths(self):
        self.judge(DOUBLE, 2, (((), ((0, 0, 0, 1), (1, 0, 0, 1), (1, 1, 1, 1), (2, 0, 0, 1), (2, 1, 1, 1))),), True)
        self.judge(DOUBLE, 1, (((), ((0, 0, 0, 1), (1, 0, 0, 1), (1, 1, 1, 1), (2, 0, 0, 1), (2, 1, 1, 1))),), False)


class TestShowsFails(unittest.TestCase):
    def judge(self, truth, least, parts, wanted):
        self.assertIs(shows_fails(truth, least, Fails(*parts)), wanted, (term_text(truth), parts))
        self.assertIs(shows_fails(truth, least, Fails(*as_lists(parts))), wanted)

    def test_what_holds_gives(self):
        for text, least, width in WRONG:
            truth = read_term(text)
            if width is not None:
                self.judge(truth, least, holds(truth, least).parts, True)
        self.assertIs(shows_fails(value=Fails(2, (), (), ()), least=1, truth=read_term("( eq 2 0 )")), True)

    def test_widths(self):
        truth = read_term("( eq x 3 )")
        for least in (1, 3, 8):
            for width in (1, 2, 3, 7, 8, 9, 299, 300, 301, 0, -1, 10 ** 50):
                self.judge(truth, least, (width, (("x", 0),), (), ()), least <= width <= 300)
        for width in [*STRANGE, "3", [3], (3,)]:
            self.judge(truth, 1, (width, (("x", 0),), (), ()), False)
        self.judge(truth, 1, (300, (("x", 2 ** 300 - 1),), (), ()), True)
        self.judge(truth, 1, (300, (("x", 2 ** 300),), (), ()), False)
        self.judge(read_term("( eq 1 1 )"), 1, (True, (), (), ()), False)

    def test_a_lesser_width_is_not_asked(self):
        for width in (1, 2, 5, 300):
            self.judge(read_term("( eq x 0 )"), 1, (width, (("x", 1),), (), ()), True)

    def test_names_and_flags_bent(self):
        truth = read_term("( either ( eq y ( at x ) ) ( both ?p ( no ?a ) ) )")
        names, flags = (("x", 2), ("y", 1)), (("a", False), ("p", False))
        self.judge(truth, 1, (2, names, flags, ()), True)
        self.judge(truth, 1, (2, names, flags, ((2, 3),)), True)
        self.judge(truth, 1, (2, names, flags, ((2, 1),)), False)
        self.judge(truth, 1, (2, names, (("a", False), ("p", True)), ()), False)
        for bent in (
            names[:1], names[1:], (), names[::-1], (*names, ("z", 0)), (names[0], names[0], names[1]), (("w", 0), *names), (("x", 2), ("y", 4)),
            (("x", 2), ("y", -1)), (("x", 2), ("y", True)), (("x", 2), ("y", "1")), (("x", 2), ("y", None)), (("x", 2), ("y", (1,))), (("x", 2), "y1"),
            (("x", 2), ("y",)), (("x", 2), ("y", 1, 1)), (("x", 2), ("z", 1)), ((2, "x"), ("y", 1)), (("x", 2), (None, 1)), (("x", 2), (("y",), 1)),
            None, "xy", {"x": 2, "y": 1}, 3, True, ("x", "y"), (("x", 2), None),
        ):
            self.judge(truth, 1, (2, bent, flags, ()), False)
        for bent in (
            flags[:1], flags[1:], (), flags[::-1], (*flags, ("q", False)), (flags[0], flags[0], flags[1]), (("a", 0), ("p", False)), (("a", False), ("p", 0)),
            (("a", False), ("p", None)), (("a", False), ("p", "")), (("a", False), ("p", (False,))), (("a", False), ("q", False)), (("a", False), (0, False)),
            None, "ap", {"a": False, "p": False}, (("a", False), "p0"), (("a", False), ("p", False, False)), ("a", "p"),
        ):
            self.judge(truth, 1, (2, names, bent, ()), False)

    def test_memory_bent(self):
        truth = read_term("( eq ( at x ) 0 )")
        self.judge(truth, 1, (2, (("x", 2),), (), ((2, 3),)), True)
        for memory in (
            (), ((1, 3),), ((2, 0),), ((2, 4),), ((2, -1),), ((2, True),), ((2, "3"),), ((2, None),), ((True, 1), (2, 3)), ((-1, 1), (2, 3)),
            ((2, 3), (4, 1)), ((2, 3), (2, 3)), ((2, 3), (1, 3)), ((2, 3), (3, 0)), ((0, 0), (2, 3)), ((2, 3, 3),), ((2,),), ("23",), (("2", 3),),
            (2, 3), None, "23", {2: 3}, 3, ((None, 3),), (((2,), 3),), ((2, 3), ("x", 3)), ((2, 3), None),
        ):
            self.judge(truth, 1, (2, (("x", 2),), (), memory), False)
        for memory in (((2, 1),), ((0, 1), (2, 1)), ((0, 3), (1, 3), (2, 3), (3, 3)), ((2, 3), (3, 1))):
            self.judge(truth, 1, (2, (("x", 2),), (), memory), True)
        self.judge(read_term("( eq x 0 )"), 1, (2, (("x", 2),), (), ((1, 1),)), True)
        self.judge(truth, 1, (300, (("x", 2 ** 300 - 1),), (), ((2 ** 300 - 1, 5),)), True)
        self.judge(truth, 1, (300, (("x", 2 ** 300 - 1),), (), ((2 ** 300 - 1, 5), (2 ** 300, 5))), False)

    def test_where_the_truth_is_true(self):
        self.judge(read_term("( eq x 0 )"), 1, (2, (("x", 0),), (), ()), False)
        self.judge(TRUE, 1, (1, (), (), ()), False)
        self.judge(read_term("( no true )"), 1, (1, (), (), ()), True)
        self.judge(P, 1, (1, (), (("p", True),), ()), False)
        self.judge(P, 1, (1, (), (("p", False),), ()), True)

    def test_one_spelling(self):
        truth = read_term("( both ?x ( eq x 1 ) )")
        self.judge(truth, 1, (1, (("x", 1),), (("x", False),), ()), True)
        self.judge(truth, 1, (1, (("x", 1),), (("x", True),), ()), False)

    def test_no_fails(self):
        truth = read_term("( eq x 0 )")
        parts = (2, (("x", 1),), (), ())
        for value in [*STRANGE, 3, "fails", parts, Denial("fails", *parts), Paper("fails", *parts), Holds(()), {}, []]:
            self.assertIs(shows_fails(truth, 1, value), False)
        for value in [*STRANGE, "x", {}, [[1]]]:
            self.assertIs(shows_fails(truth, 1, Fails(value, value, value, value)), False)
            self.assertIs(shows_holds(truth, 1, Holds(value)), False)


if __name__ == "__main__":
    unittest.main()
