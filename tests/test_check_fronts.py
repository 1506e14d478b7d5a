"""Looking at papers that tell cheapest members of classes by registers."""

import itertools
import random
import unittest

from helpers import STRANGE, TRUE, Raises, as_lists, name, number
from leastequal.check_fronts import shows_front, shows_stored_best
from leastequal.classes import Classes
from leastequal.costs import Depth, Needs, Weights, cost_of
from leastequal.errors import BadClasses, BadCost, BadNumber, NoClass
from leastequal.fronts import Front, StoredBest, front, stored_best
from leastequal.papers import Denial, Paper
from slow_costs import inner_of, weigher
from slow_registers import fits, heavy, inner_places, is_call, slow_need
from test_fronts import EIGHT, ONES, RIM, drawn, floors_of, weights

A, B, C, D = name("a"), name("b"), name("c"), name("d")
ZERO = number(0)
LONG = ("add", ("add", ("add", A, B), C), D)
WIDE = ("add", ("add", A, B), ("add", C, D))


def undercut(classes, cost, table, price=None):
    """Whether some node undercuts a floor by registers, by the words of the document."""
    weight_of = weigher(dict(cost.table), cost.other)
    for place in classes.places:
        many = len(table[place])
        for node, need in itertools.product(classes.nodes(place), range(1, many + 1)):
            inner = inner_of(node)
            orders = [(0,) * len(inner)] if is_call(node[0]) else itertools.permutations(range(len(inner)))
            for order in orders:
                choices = []
                for part, ahead in zip(inner, order):
                    told = [table[part][need - ahead - 1]] if need > ahead else []
                    if price is not None and need > ahead and table[part][-1] is not None:
                        told.append(table[part][-1] + price)
                    choices.append([one for one in told if one is not None])
                for some in itertools.product(*choices):
                    floor = table[place][need - 1]
                    if floor is None or weight_of(node[0]) + sum(some) < floor:
                        return True
    return False


def slow_front(classes, place, cost, entries, table):
    if undercut(classes, cost, table):
        return False
    wanted, told = [], [None, *table[place]]
    for registers in range(1, 17):
        if told[registers] is not None and (told[registers - 1] is None and not wanted or told[registers - 1] is not None and told[registers] < told[registers - 1]):
            wanted.append((registers, told[registers]))
    if [entry[:2] for entry in entries] != wanted:
        return False
    return all(classes.class_of(term) == place and slow_need(term) <= registers and cost_of(term, cost) == worth for registers, worth, term in entries)


def slow_stored(classes, place, cost, price, many, term, cut, table):
    if undercut(classes, cost, table, price) or classes.class_of(term) != place or not fits(term, many, cut):
        return False
    return cost_of(term, cost) + price * len(cut) == table[place][-1]


def bent(rng, worths):
    """Floors with one of them changed."""
    index = rng.randrange(len(worths))
    old = worths[index]
    new = rng.choice([1, 3, 7]) if old is None else rng.choice([None, old - 1, old - 1, old + 1, old - 3])
    return (*worths[:index], new, *worths[index + 1:])


class TestFront(Raises, unittest.TestCase):
    def setUp(self):
        self.kin = Classes()
        self.kin.join(WIDE, ("sub", LONG, ZERO), None)
        self.top = self.kin.class_of(WIDE)
        self.paper = front(self.kin, self.top, ONES)
        self.entries, self.floors = list(self.paper.entries), list(self.paper.floors)

    def look(self, entries, floors, wanted):
        self.assertIs(shows_front(self.kin, self.top, ONES, Front(entries, floors)), wanted)

    def test_bent_floors(self):
        rng = random.Random(3)
        seen = []
        for seed in range(25):
            classes = drawn(seed, 5, 8)
            cost = weights(seed)
            for place in rng.sample(classes.places, min(6, len(classes.places))):
                paper = front(classes, place, cost)
                for _ in range(8):
                    table = dict(paper.floors)
                    for one in rng.sample(classes.places, rng.randint(1, 2)):
                        table[one] = bent(rng, table[one])
                    wanted = slow_front(classes, place, cost, paper.entries, table)
                    self.assertIs(shows_front(classes, place, cost, Front(paper.entries, sorted(table.items()))), wanted)
                    seen.append(wanted)
        self.assertGreater(seen.count(True), 60)
        self.assertGreater(seen.count(False), 200)

    def test_other_members(self):
        other = ("sub", ("add", D, ("add", C, ("add", A, B))), ZERO)
        self.kin.join(("sub", LONG, ZERO), other, None)
        paper = front(self.kin, self.top, ONES)
        for inner in (("sub", LONG, ZERO), other):
            self.assertIs(shows_front(self.kin, self.top, ONES, Front([(2, 9, inner), (3, 7, WIDE)], paper.floors)), True)
        self.assertIs(shows_front(self.kin, self.top, ONES, Front([(2, 9, other[1]), (3, 7, WIDE)], paper.floors)), False)

    def test_other_floors_of_other_classes(self):
        for index, (place, worths) in enumerate(self.floors):
            low = [*self.floors[:index], (place, tuple(None if one is None else one - 1 for one in worths)), *self.floors[index + 1:]]
            table = dict(low)
            self.look(self.entries, low, slow_front(self.kin, self.top, ONES, self.entries, table))
        # A class that is no part of the asked one, with floors that are low, and do not fall.
        self.kin.put(("neg", A))
        place = self.kin.class_of(("neg", A))
        for worths, wanted in (((0,) * 16, True), ((-5, *range(-20, -5)), True), ((2,) * 16, True), ((1, 2) * 8, True), ((3,) + (2,) * 15, False), ((2,) * 15 + (3,), False), ((None,) + (2,) * 15, False), ((2,) * 15 + (None,), False)):
            self.look(self.entries, sorted([*self.floors, (place, worths)]), wanted)

    def test_entries(self):
        one, two = self.entries
        self.look([one, two], self.floors, True)
        self.look(as_lists([one, two]), as_lists(self.floors), True)
        for entries in ([], [one], [two], [two, one], [one, one, two], [one, two, two], [one, two, (4, 7, WIDE)], [(1, 9, one[2]), two], [(3, 9, one[2]), two], [one, (2, 7, WIDE)], [one, (4, 7, WIDE)], [(2, 8, one[2]), two], [(2, 10, one[2]), two], [(2, 9, LONG), two], [(2, 7, WIDE), two], [one, (3, 7, LONG)], [one, (3, 9, one[2])], [(2, 9, WIDE), two], [one, (3, 7, A)], [one, two, (17, 5, WIDE)], [(0, 11, WIDE), one, two]):
            self.look(entries, self.floors, False)
        for bad in [*STRANGE, 5, (), "abc", (3, 7), (3, 7, WIDE, 1), (3, 7, None), (3, 7, ("add", A)), (3, None, WIDE), (None, 7, WIDE), (3.0, 7, WIDE), (3, 7.0, WIDE), ("3", 7, WIDE), {3: 7, 7: WIDE, "t": 1}]:
            self.look([one, bad], self.floors, False)
            self.look([one, two, bad], self.floors, False)
        for bad in [*STRANGE, 5, "ab", {2: one, 3: two}]:
            self.look(bad, self.floors, False)

    def test_truths_for_numbers(self):
        classes = Classes()
        classes.put(A)
        for entry, floor, wanted in (((1, 1, A), 1, True), ((True, 1, A), 1, False), ((1, True, A), 1, False), ((1, 1, A), True, False), ((1, True, A), True, False)):
            self.assertIs(shows_front(classes, 0, ONES, Front([entry], [(0, (floor,) * 16)])), wanted)
        self.assertIs(shows_front(classes, 0, ONES, Front([(1, 1, A)], [(False, (1,) * 16)])), False)

    def test_floors(self):
        for index, (place, worths) in enumerate(self.floors):
            rest = self.floors[:index], self.floors[index + 1:]
            self.look(self.entries, [*rest[0], *rest[1]], False)
            self.look(self.entries, [*rest[0], (place, worths), (place, worths), *rest[1]], False)
            self.look(self.entries, [*rest[0], *rest[1], (place, worths)], index == len(self.floors) - 1)
            for bad in (worths[:-1], (*worths, worths[-1]), (), None, 5, "a", worths[0], [*worths[:-1], "1"], [*worths[:-1], 1.0], [*worths[:-1], True], [*worths[:-1], False], [*worths[:-1], ()], {1: 1}, (worths,)):
                self.look(self.entries, [*rest[0], (place, bad), *rest[1]], False)
            for at in range(16):
                if worths[at] is not None:
                    for bad in (worths[at] + 1, None):
                        self.look(self.entries, [*rest[0], (place, (*worths[:at], bad, *worths[at + 1:])), *rest[1]], False)
        for bad in [*STRANGE, 5, "ab", dict(self.floors), [5], [(0, 1, 2)]]:
            self.look(self.entries, bad, False)
        # The asked class: floors that are too low have no member.
        for at in range(16):
            table = dict(self.floors)
            worths = table[self.top]
            table[self.top] = (*worths[:at], 1 if worths[at] is None else worths[at] - 1, *worths[at + 1:])
            self.look(self.entries, sorted(table.items()), False)

    def test_floors_with_a_gap(self):
        # Where there is no member, a floor may be told all the same; but then there must be an entry for it.
        box = Classes()
        top = box.put(WIDE)
        table = {place: (1,) * 16 if len(box.nodes(place)[0]) == 2 else (None,) + (3,) * 15 for place in box.places}
        for worths, entries, wanted in (
            ((None, None) + (7,) * 14, [(3, 7, WIDE)], True), ((5, None) + (7,) * 14, [(3, 7, WIDE)], False), ((5, None) + (7,) * 14, [(1, 5, A), (3, 7, WIDE)], False), ((5, None) + (7,) * 14, [(1, 5, WIDE), (3, 7, WIDE)], False),
            ((None, 9) + (7,) * 14, [(3, 7, WIDE)], False), ((9, None) + (7,) * 14, [(3, 7, WIDE)], False), ((7,) * 16, [(1, 7, WIDE)], False), ((7,) * 16, [(3, 7, WIDE)], False),
        ):
            floors = sorted({**table, top: worths}.items())
            self.assertFalse(undercut(box, ONES, dict(floors)))
            self.assertIs(shows_front(box, top, ONES, Front(entries, floors)), wanted)

    def test_no_member_at_all(self):
        classes = Classes()
        top = classes.put(heavy(8, A))
        floors = front(classes, classes.class_of(A), ONES).floors
        self.assertEqual(dict(floors)[top], (None,) * 16)
        self.assertIs(shows_front(classes, top, ONES, Front([], floors)), True)
        self.assertIs(shows_front(classes, top, ONES, Front([(16, 16401, heavy(8, A))], floors)), False)
        table = {**dict(floors), top: (None,) * 15 + (16401,)}
        self.assertIs(shows_front(classes, top, ONES, Front([(16, 16401, heavy(8, A))], sorted(table.items()))), False)

    def test_great_members(self):
        # A right member may be greater than those that front tells.
        classes = Classes()
        row = A
        for _ in range(40):
            row = ("neg", row)
        place = classes.put(row)
        floors = sorted(floors_of(classes, ONES, 16).items())
        self.assertIs(shows_front(classes, place, ONES, Front([(1, 41, row)], floors)), True)
        self.assertIs(shows_stored_best(classes, place, ONES, 1, 3, StoredBest(row, [], [(one, worths[:3]) for one, worths in floors])), True)

    def test_other_papers(self):
        for value in [*STRANGE, 5, (self.entries, self.floors), Paper("front", self.entries, self.floors), Denial("front", self.entries, self.floors), Front, StoredBest(self.entries, self.floors, self.floors)]:
            self.assertIs(shows_front(self.kin, self.top, ONES, value), False)
        self.assertIs(shows_front(value=self.paper, cost=ONES, place=self.top, classes=self.kin), True)
        self.assertIs(shows_front(self.kin, self.top, Weights({"add": 1}, 1), self.paper), True)
        for cost in (Weights({"add": 2}, 1), Weights([], 2), Weights({"number": 2}, 1)):
            self.assertIs(shows_front(self.kin, self.top, cost, self.paper), False)
        self.assertIs(shows_front(self.kin, 0, ONES, self.paper), False)


class TestStoredBest(Raises, unittest.TestCase):
    def setUp(self):
        self.box = Classes()
        self.top = self.box.put(EIGHT)
        self.paper = stored_best(self.box, self.top, ONES, 5, 3)

    def look(self, term, cut, floors, wanted, price=5, many=3):
        self.assertIs(shows_stored_best(self.box, self.top, ONES, price, many, StoredBest(term, cut, floors)), wanted)

    def test_bent_floors(self):
        rng = random.Random(4)
        seen = []
        for seed in range(20):
            classes = drawn(seed, 5, 20)
            cost = weights(seed)
            for place in rng.sample(classes.places, min(5, len(classes.places))):
                price, many = rng.choice([1, 2, 9]), rng.choice([3, 4])
                paper = stored_best(classes, place, cost, price, many)
                for _ in range(8):
                    table = dict(paper.floors)
                    for one in rng.sample(classes.places, rng.randint(1, 2)):
                        table[one] = bent(rng, table[one])
                    cut = list(paper.cut)
                    if rng.random() < 0.2 and inner_places(paper.term):
                        cut = sorted({*cut, rng.choice(inner_places(paper.term))})
                    wanted = slow_stored(classes, place, cost, price, many, paper.term, cut, table)
                    self.assertIs(shows_stored_best(classes, place, cost, price, many, StoredBest(paper.term, cut, sorted(table.items()))), wanted)
                    seen.append(wanted)
        self.assertGreater(seen.count(True), 30)
        self.assertGreater(seen.count(False), 200)

    def test_other_cuts(self):
        self.assertEqual((self.paper.term, len(self.paper.cut)), (EIGHT, 1))
        seen = []
        for many in range(3):
            for cut in itertools.combinations(inner_places(EIGHT), many):
                wanted = many == 1 and fits(EIGHT, 3, cut)
                self.look(EIGHT, cut, self.paper.floors, wanted)
                seen.append(wanted)
        self.assertGreater(seen.count(True), 1)
        good = list(self.paper.cut)
        for bad in [*STRANGE, 5, "0", {}, [0], [()], [*good, ()], good * 2, [*good, (2,)], [(*good[0], 0, 0, 0)], [(True,)], [None], [(-1,)], [(0.0,)], ["0"]]:
            self.look(EIGHT, bad, self.paper.floors, False)
        self.look(as_lists(EIGHT), as_lists(good), as_lists(self.paper.floors), True)

    def test_cuts_in_any_order(self):
        box = Classes()
        box.put(("add", EIGHT, ("mul", EIGHT, EIGHT)))
        top = box.class_of(("add", EIGHT, ("mul", EIGHT, EIGHT)))
        paper = stored_best(box, top, ONES, 1, 3)
        self.assertGreater(len(paper.cut), 2)
        self.assertIs(shows_stored_best(box, top, ONES, 1, 3, StoredBest(paper.term, paper.cut[::-1], paper.floors)), True)
        self.assertIs(shows_stored_best(box, top, ONES, 1, 3, StoredBest(paper.term, paper.cut[1:], paper.floors)), False)

    def test_terms(self):
        for bad in [*STRANGE, 5, (), A, TRUE, ("neg", EIGHT), EIGHT[1], ("add", EIGHT[2], EIGHT[1]), ("add", A)]:
            self.look(bad, self.paper.cut, self.paper.floors, False)
            self.look(bad, [], self.paper.floors, False)

    def test_floors(self):
        floors = list(self.paper.floors)
        for index, (place, worths) in enumerate(floors):
            rest = floors[:index], floors[index + 1:]
            self.look(EIGHT, self.paper.cut, [*rest[0], *rest[1]], False)
            self.look(EIGHT, self.paper.cut, [*rest[0], (place, worths), (place, worths), *rest[1]], False)
            for bad in (worths[:-1], (*worths, worths[-1]), (), None, 5, "abc", [*worths[:-1], True], [*worths[:-1], 1.0]):
                self.look(EIGHT, self.paper.cut, [*rest[0], (place, bad), *rest[1]], False)
            for at in range(3):
                if worths[at] is not None:
                    for bad in (worths[at] + 1, None):
                        self.look(EIGHT, self.paper.cut, [*rest[0], (place, (*worths[:at], bad, *worths[at + 1:])), *rest[1]], False)
        self.look(EIGHT, self.paper.cut, floors[::-1], False)
        for bad in [*STRANGE, 5, dict(floors), [5]]:
            self.look(EIGHT, self.paper.cut, bad, False)

    def test_with_another_price_or_number(self):
        for price, many, wanted in ((5, 3, True), (4, 3, False), (6, 3, False), (5, 4, False), (RIM, 3, False)):
            self.look(EIGHT, self.paper.cut, self.paper.floors, wanted, price, many)
        for price, many in ((1, 3), (RIM, 3), (1, 16), (RIM, 16)):
            paper = stored_best(self.box, self.top, ONES, price, many)
            self.look(*paper.parts, True, price, many)

    def test_other_papers(self):
        parts = self.paper.parts
        for value in [*STRANGE, 5, parts, Paper("storedbest", *parts), Denial("storedbest", *parts), StoredBest, Front([], parts[2])]:
            self.assertIs(shows_stored_best(self.box, self.top, ONES, 5, 3, value), False)
        self.assertIs(shows_stored_best(value=self.paper, many=3, price=5, cost=ONES, place=self.top, classes=self.box), True)
        self.assertIs(shows_stored_best(self.box, self.top, Weights({"add": 2}, 1), 5, 3, self.paper), False)
        self.assertIs(shows_stored_best(self.box, 0, ONES, 5, 3, self.paper), False)


class TestErrors(Raises, unittest.TestCase):
    def test_errors(self):
        box = Classes()
        box.put(A)
        for bad in [*STRANGE, 5, (), [box]]:
            self.check_part(BadClasses, "classes", shows_front, bad, None, None, None)
            self.check_part(BadClasses, "classes", shows_stored_best, bad, None, None, None, None, None)
        for bad in [*STRANGE, 1, -1, "0", (0,), 0.0]:
            self.check(NoClass, {"value": bad}, shows_front, box, bad, None, None)
            self.check(NoClass, {"value": bad}, shows_stored_best, box, bad, None, None, None, None)
        for bad in [*STRANGE, 5, (), Weights, Depth([], 1), Needs()]:
            self.check_part(BadCost, "cost", shows_front, box, 0, bad, None)
            self.check_part(BadCost, "cost", shows_stored_best, box, 0, bad, None, None, None)
        for bad in [*STRANGE, 0, -1, RIM + 1, "1"]:
            self.check_part(BadNumber, "price", shows_stored_best, box, 0, ONES, bad, None, None)
        for bad in [*STRANGE, 2, 17, "3"]:
            self.check_part(BadNumber, "many", shows_stored_best, box, 0, ONES, 1, bad, None)

    def test_no_other_errors(self):
        classes = Classes()
        row = A
        for _ in range(1010):
            row = ("add", row, A)
        for term in (heavy(8, A), row):
            place = classes.put(term)
            self.assertIs(shows_front(classes, place, ONES, None), False)
            self.assertIs(shows_stored_best(classes, place, ONES, 1, 3, None), False)


if __name__ == "__main__":
    unittest.main()
