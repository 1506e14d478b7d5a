"""Looking at papers that tell a cheapest member of a class."""

import random
import unittest

from helpers import STRANGE, TRUE, X, Y, Raises, as_lists, name, number
from leastequal.check_cheapest import shows_cheapest
from leastequal.cheapest import Cheapest, cheapest
from leastequal.classes import Classes
from leastequal.costs import Both, Depth, Needs, Weights, cost_of
from leastequal.errors import BadClasses, BadCost, NoClass
from leastequal.papers import Denial, Paper
from slow_classes import members_of
from slow_costs import undercut
from test_cheapest import DEAR, ONES, costs, doubled, drawn

A, B, ZERO = name("a"), name("b"), number(0)


def slow_shows(classes, place, cost, term, table):
    return classes.class_of(term) == place and cost_of(term, cost) == table[place] and not undercut(classes, cost, table)


class TestShown(Raises, unittest.TestCase):
    def test_what_is_told_is_shown(self):
        for seed in range(25):
            classes = drawn(seed)
            for cost in costs(seed):
                for place in classes.places:
                    self.assertIs(shows_cheapest(classes, place, cost, cheapest(classes, place, cost)), True)

    def test_other_members_as_cheap(self):
        more = 0
        for seed in range(20):
            classes = drawn(seed)
            listed = members_of(classes, 6)
            for cost in costs(seed):
                for place in classes.places:
                    told = cheapest(classes, place, cost)
                    table = dict(told.floors)
                    for term in [term for size in range(1, 7) for term in listed[place][size][:20]]:
                        is_cheap = cost_of(term, cost) == table[place]
                        self.assertIs(shows_cheapest(classes, place, cost, Cheapest(term, told.floors)), is_cheap)
                        more += is_cheap and term != told.term
        self.assertGreater(more, 100)

    def test_bent_floors(self):
        rng = random.Random(5)
        seen = []
        for seed in range(40):
            classes = drawn(seed, 6, 6)
            for cost in costs(seed):
                place = rng.choice(classes.places)
                told = cheapest(classes, place, cost)
                for _ in range(12):
                    table = dict(told.floors)
                    for one in rng.sample(classes.places, min(len(classes.places), rng.randint(1, 3))):
                        change = rng.choice([-3, -1, -1, 1, 2])
                        table[one] = (table[one][0] + change, table[one][1] + rng.choice([-1, 0, 1])) if isinstance(cost, Both) else table[one] + change
                    wanted = slow_shows(classes, place, cost, told.term, table)
                    self.assertIs(shows_cheapest(classes, place, cost, Cheapest(told.term, sorted(table.items()))), wanted)
                    seen.append(wanted)
        self.assertGreater(seen.count(True), 150)
        self.assertGreater(seen.count(False), 1000)

    def test_great_members(self):
        # A right member may be greater than those that cheapest tells.
        classes, places = doubled(12)
        term = A
        for _ in range(12):
            term = ("add", term, term)
        floors = sorted([(place, 2 ** (level + 1) - 1) for level, place in enumerate(places)])
        self.assertIs(shows_cheapest(classes, places[12], DEAR, Cheapest(term, floors)), True)
        self.assertIs(shows_cheapest(classes, places[11], DEAR, Cheapest(term, floors)), False)


class TestForm(Raises, unittest.TestCase):
    def setUp(self):
        self.box = Classes()
        self.box.join(("add", A, ZERO), A, None)
        self.box.join(("mul", A, A), ("add", A, B), None)
        self.place = self.box.class_of(("mul", A, A))
        self.term = ("add", A, B)
        self.floors = list(cheapest(self.box, self.place, ONES).floors)

    def look(self, term, floors, wanted, cost=ONES):
        self.assertIs(shows_cheapest(self.box, self.place, cost, Cheapest(term, floors)), wanted)

    def test_floors_of_each_class_in_order(self):
        floors = self.floors
        self.assertEqual(floors, [(0, 1), (1, 1), (3, 3), (4, 1)])
        self.look(self.term, floors, True)
        self.look(("mul", A, A), as_lists(floors), True)
        self.look(as_lists(self.term), tuple(floors), True)
        for index in range(4):
            self.look(self.term, floors[:index] + floors[index + 1:], False)
            self.look(self.term, floors[:index] + [floors[index]] + floors[index:], False)
        for other in (floors[::-1], [floors[1], floors[0], *floors[2:]], [*floors, (2, 1)], floors[:2] + [(2, 1)] + floors[2:], [*floors, (5, 1)], [(-1, 1), *floors]):
            self.look(self.term, other, False)

    def test_no_floors(self):
        for bad in [*STRANGE, 5, "ab", [5], dict(self.floors), [(0, 1, 1), *self.floors[1:]], [(0,), *self.floors[1:]], ["01", *self.floors[1:]]]:
            self.look(self.term, bad, False)
        for index in (0, 1, 2, 3):
            for bad in [*STRANGE, "1", (1,), (1, 1), None, 1.0]:
                floors = list(self.floors)
                floors[index] = (floors[index][0], bad)
                self.look(self.term, floors, False)
        self.look(self.term, [(False, 1), (True, 1), (3, 3), (4, 1)], False)
        self.look(self.term, [(0.0, 1), (1, 1), (3, 3), (4, 1)], False)

    def test_worths_that_are_too_high_or_too_low(self):
        for floors, wanted in (
            ([(0, 0), (1, 1), (3, 3), (4, 1)], False), ([(0, 1), (1, 0), (3, 3), (4, 1)], True), ([(0, 1), (1, -1), (3, 3), (4, 1)], True),
            ([(0, 2), (1, 1), (3, 3), (4, 1)], False), ([(0, 1), (1, 1), (3, 2), (4, 1)], False), ([(0, 1), (1, 1), (3, 4), (4, 1)], False),
            ([(0, 1), (1, 1), (3, 3), (4, 0)], False), ([(0, 1), (1, -2), (3, 3), (4, 1)], False), ([(0, 1), (1, 2), (3, 3), (4, 1)], False),
        ):
            self.look(self.term, floors, wanted)

    def test_pairs_of_worths(self):
        both = Both(ONES, Needs())
        floors = [(0, (1, 1)), (1, (1, 1)), (3, (3, 2)), (4, (1, 1))]
        self.look(self.term, floors, True, both)
        self.look(self.term, as_lists(floors), True, both)
        self.look(self.term, [(0, (1, 1)), (1, (0, 5)), (3, (3, 2)), (4, (1, 1))], True, both)
        self.look(self.term, [(0, (1, 1)), (1, (1, 2)), (3, (3, 2)), (4, (1, 1))], False, both)
        for bad in (1, (1,), (1, 1, 1), (True, 1), (1, True), None, "11", (1, None)):
            self.look(self.term, [(0, (1, 1)), (1, bad), (3, (3, 2)), (4, (1, 1))], False, both)
        self.look(self.term, [(place, (worth, 1)) for place, worth in self.floors], False)
        self.look(self.term, self.floors, False, both)

    def test_terms(self):
        for bad in [*STRANGE, 5, (), A, TRUE, X, ("add", B, A), ("mul", A, B), ("add", A, Y), ("add", A), "a", ("add", A, ZERO), ("mul", ("add", A, ZERO), A)]:
            self.look(bad, self.floors, False)
        self.look(("mul", ("add", A, ZERO), A), [(0, 1), (1, 1), (3, 5), (4, 1)], False)

    def test_other_costs(self):
        value = Cheapest(self.term, self.floors)
        for cost, wanted in ((ONES, True), (Weights([("mul", 9)], 1), True), (Weights([("mul", 1)], 2), False), (Depth([], 1), False), (Needs(), False)):
            self.assertIs(shows_cheapest(self.box, self.place, cost, value), wanted)

    def test_other_papers(self):
        for value in [*STRANGE, 5, (self.term, self.floors), Paper("cheapest", self.term, self.floors), Denial("cheapest", self.term, self.floors), Cheapest]:
            self.assertIs(shows_cheapest(self.box, self.place, ONES, value), False)
        self.assertIs(shows_cheapest(value=Cheapest(self.term, self.floors), cost=ONES, place=self.place, classes=self.box), True)

    def test_errors(self):
        value = Cheapest(self.term, self.floors)
        for bad in [*STRANGE, 5, (), [self.box]]:
            self.check_part(BadClasses, "classes", shows_cheapest, bad, None, None, value)
        for bad in [*STRANGE, 2, -1, "0", (0,), 0.0]:
            self.check(NoClass, {"value": bad}, shows_cheapest, self.box, bad, None, value)
        for bad in [*STRANGE, 5, (), Weights, {"add": 1}]:
            self.check_part(BadCost, "cost", shows_cheapest, self.box, 0, bad, value)
        # No other error: the told term of this class would be too great.
        classes, places = doubled(20)
        self.assertIs(shows_cheapest(classes, places[20], DEAR, None), False)


if __name__ == "__main__":
    unittest.main()
