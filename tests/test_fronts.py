"""Cheapest members of classes by registers, and with parts that are stored for a price."""

import itertools
import random
import time
import unittest

from helpers import FALSE, P, STRANGE, TRUE, X, Y, DrawCalls, Raises, has_no_list, name, number
from leastequal.check_fronts import shows_front, shows_stored_best
from leastequal.classes import Classes
from leastequal.costs import Both, Depth, Needs, Weights, cost_of
from leastequal.errors import BadClasses, BadCost, BadNumber, Misfit, NoClass, TooMany
from leastequal.fronts import Front, StoredBest, front, stored_best
from leastequal.members import all_members, is_endless, member_at, many_members
from leastequal.papers import Denial, Paper
from leastequal.program import Function
from leastequal.registers import makes, need_of
from leastequal.stores import rows_with_cut
from leastequal.terms import levels_of, size_of
from slow_classes import drawn_joins
from slow_costs import least_worths, weigher
from slow_registers import fits, heavy, inner_places
from slow_rules import balanced
from test_cheapest import doubled

A, B, C, D = name("a"), name("b"), name("c"), name("d")
ONE, ZERO = number(1), number(0)
FUNCTIONS = [Function("f", ["a", "b"], [A, B]), Function("g", [], [ONE]), Function("h", ["a", "b", "c"], [A, B, C])]
LABELS = ["add", "add", "mul", "neg", "if", "eq", "both"]
ONES = Weights([], 1)
RIM = 10 ** 12
EIGHT = balanced("add", [A, B, C, D, A, C, B, D])


def drawn(seed, many=9, size=12, endless=True):
    rng = random.Random(seed)
    draw = DrawCalls(rng, [A, B, P, TRUE, ZERO], LABELS, FUNCTIONS)
    classes = Classes()
    for one, other in drawn_joins(rng, draw, many, size):
        if rng.random() < 0.3:
            classes.put(one)
        elif endless or not makes_endless(classes, one, other):
            classes.join(one, other, None)
    return classes


def makes_endless(classes, one, other):
    tried = classes.copy()
    tried.join(one, other, None)
    return any(is_endless(tried, place) for place in tried.places)


def weights(seed):
    rng = random.Random(seed)
    words = ["number", "name", "flag", "true", "add", "mul", "neg", "if", "call", "loop", "eq", "both", "call f 1", "loop h 0"]
    return Weights({word: rng.randint(1, 5) for word in rng.sample(words, 9)}, rng.randint(1, 3))


def floors_of(classes, cost, registers, price=None):
    return least_worths(classes, weigher(dict(cost.table), cost.other), registers, price)


def wanted_entries(worths):
    """The pairs of a number of registers and a worth at which a worth is lower than ahead."""
    return [(index + 1, worth) for index, worth in enumerate(worths) if worth is not None and (index == 0 or worths[index - 1] is None or worth < worths[index - 1])]


def listed(classes, place):
    """All members of a class that is not endless."""
    found, size = [], 1
    while len(found) < all_members(classes, place) and size <= 30:
        found += [member_at(classes, place, size, index) for index in range(many_members(classes, place, size))]
        size += 1
    return found


class TestFront(Raises, unittest.TestCase):
    def test_against_sums_over_levels(self):
        lengths, endless = [], 0
        for seed in range(20):
            classes = drawn(seed)
            for cost in (ONES, weights(seed)):
                floors = floors_of(classes, cost, 16)
                for place in classes.places:
                    paper = front(classes, place, cost)
                    self.assertEqual([entry[:2] for entry in paper.entries], wanted_entries(floors[place]))
                    for registers, worth, term in paper.entries:
                        self.assertEqual((classes.class_of(term), cost_of(term, cost)), (place, worth))
                        self.assertLessEqual(need_of(term), registers)
                    self.assertEqual(dict(paper.floors)[place], floors[place])
                    self.assertIs(shows_front(classes, place, cost, paper), True)
                    lengths.append(len(paper.entries))
                    endless += is_endless(classes, place)
        self.assertGreater(len([one for one in lengths if one > 1]), 15)
        self.assertGreater(endless, 100)

    def test_against_all_members(self):
        looked = 0
        for seed in range(25):
            classes = drawn(seed, 12, 9, False)
            cost = weights(seed)
            for place in classes.places:
                if all_members(classes, place) < 200:
                    members = listed(classes, place)
                    least = [min([cost_of(term, cost) for term in members if need_of(term) <= registers], default=None) for registers in range(1, 17)]
                    paper = front(classes, place, cost)
                    self.assertEqual([entry[:2] for entry in paper.entries], wanted_entries(least))
                    self.assertTrue(all(entry[2] in members for entry in paper.entries))
                    looked += len(members) > 1
        self.assertGreater(looked, 30)

    def test_some(self):
        kin = Classes()
        long = ("add", ("add", ("add", A, B), C), D)
        wide = ("add", ("add", A, B), ("add", C, D))
        kin.join(wide, ("sub", long, ZERO), None)
        paper = front(kin, kin.class_of(wide), ONES)
        self.assertEqual(paper.entries, ((2, 9, ("sub", long, ZERO)), (3, 7, wide)))
        self.assertEqual(dict(paper.floors)[kin.class_of(wide)], (None, 9) + (7,) * 14)
        self.assertEqual([one for one, _ in paper.floors], list(kin.places))
        self.assertEqual(front(kin, kin.class_of(A), ONES).entries, ((1, 1, A),))
        # As cheap with more registers is no entry.
        kin.join(long, wide, None)
        self.assertEqual([entry[:2] for entry in front(kin, kin.class_of(wide), ONES).entries], [(2, 7)])

    def test_form(self):
        classes = drawn(3)
        paper = front(classes, classes.places[-1], ONES)
        self.assertTrue(has_no_list(paper.parts))
        self.assertEqual((paper.word, paper.parts), ("front", (paper.entries, paper.floors)))
        self.assertTrue(all(len(worths) == 16 for _, worths in paper.floors))
        self.assertEqual(front(cost=ONES, place=classes.places[-1], classes=classes), paper)
        self.assertEqual(Front(floors=[1], entries=[[2]]).parts, (((2,),), (1,)))
        self.assertEqual((type(paper).__bases__, isinstance(paper, Denial), bool(paper)), ((Paper,), False, True))

    def test_needs_above_sixteen(self):
        great = heavy(8, A)
        classes = Classes()
        classes.put(great)
        for index in range(7):
            self.assertEqual([entry[0] for entry in front(classes, classes.class_of(heavy(index, A)), ONES).entries], [2 * index + 1])
        top = classes.class_of(great)
        self.check_part(Misfit, "registers", front, classes, top, ONES)
        # One member with a need of 16 and a fair size is enough.
        self.assertEqual(dict(front(classes, classes.class_of(A), ONES).floors)[top], (None,) * 16)
        classes.join(great, ("neg", A), None)
        self.assertEqual(front(classes, top, ONES).entries, ((1, 2, ("neg", A)),))

    def test_sixteen_registers(self):
        # No member of so great a need is small enough to be told, but with 16 registers there is one.
        classes = Classes()
        for index, need in ((7, 16), (8, 18)):
            term = heavy(index, ("add", A, A))
            self.assertEqual(need_of(term), need)
            top = classes.put(term)
            floors = dict(front(classes, classes.class_of(A), ONES).floors)[top]
            if need == 16:
                self.check(TooMany, {"what": "size", "most": 2000}, front, classes, top, ONES)
                self.assertEqual(floors, (None,) * 15 + (size_of(term),))
            else:
                self.check_part(Misfit, "registers", front, classes, top, ONES)
                self.assertEqual(floors, (None,) * 16)

    def test_registers_go_ahead_of_size(self):
        classes = Classes()
        top = classes.put(heavy(8, A))
        self.assertGreater(size_of(heavy(8, A)), 2000)
        self.check_part(Misfit, "registers", front, classes, top, ONES)
        self.check(TooMany, {"what": "size", "most": 2000}, front, classes, classes.class_of(heavy(7, A)), ONES)


class TestFrontBounds(Raises, unittest.TestCase):
    def test_sizes(self):
        # A long row of additions has the need 2 and so many levels; a tree has few levels.
        for many, good in ((1000, True), (1001, False)):
            classes = Classes()
            term = balanced("add", [A] * many)
            place = classes.put(term)
            self.assertEqual(size_of(term), 2 * many - 1)
            if good:
                self.assertEqual(front(classes, place, ONES).entries, ((need_of(term), 1999, term),))
                whole = classes.put(("neg", term))
                self.assertEqual(front(classes, whole, ONES).entries, ((need_of(term), 2000, ("neg", term)),))
            else:
                self.check(TooMany, {"what": "size", "most": 2000}, front, classes, place, ONES)

    def test_one_entry_is_enough(self):
        # With 2 registers there is a great member alone; with more there is a small one.
        classes = Classes()
        row = A
        for _ in range(1001):
            row = ("add", row, A)
        place = classes.put(row)
        small = ("if", ("eq", A, B), ("add", A, B), ("add", A, B))
        classes.join(row, small, None)
        self.check(TooMany, {"what": "size", "most": 2000}, front, classes, place, ONES)
        # The size counts, not the levels, which come behind.
        classes, row = Classes(), A
        for _ in range(30):
            row = ("add", row, A)
        place = classes.put(row)
        classes.join(row, small, None)
        self.check(TooMany, {"what": "levels", "most": 30}, front, classes, place, ONES)
        classes, row = Classes(), A
        for _ in range(29):
            row = ("add", row, A)
        place = classes.put(row)
        classes.join(row, small, None)
        self.assertEqual([entry[:2] for entry in front(classes, place, ONES).entries], [(2, 59), (4, 10)])

    def test_members_of_the_least_size(self):
        # Of members of one worth a smaller one with 31 levels goes ahead of a greater one with few.
        dear = Weights({"neg": 1, "add": 2, "name": 1, "mul": 40}, 1)
        row = A
        for _ in range(30):
            row = ("neg", row)
        self.assertEqual((levels_of(row), cost_of(row, dear)), (31, 31))
        cheap = Weights({"neg": 2, "add": 1, "name": 1}, 1)
        other = balanced("add", [A] * 31)
        self.assertEqual((cost_of(row, cheap), cost_of(other, cheap), size_of(row), size_of(other)), (61, 61, 31, 61))
        classes = Classes()
        place = classes.put(row)
        classes.join(row, ("call g 0",), None)
        classes.join(row, other, None)
        dearer = Weights({"neg": 2, "add": 1, "name": 1, "call": 99}, 1)
        self.check(TooMany, {"what": "levels", "most": 30}, front, classes, place, dearer)
        # If a member of the least size has few levels, that one is told.
        classes = Classes()
        place = classes.put(row)
        small = ("call f 0", A, A)
        classes.join(row, small, None)
        flat = Weights({"call": 29}, 1)
        self.assertEqual((cost_of(row, flat), cost_of(small, flat)), (31, 31))
        self.assertEqual(front(classes, place, flat).entries, ((1, 31, small),))
        # Here the long one alone has a need of 1.
        classes = Classes()
        place = classes.put(row)
        classes.join(row, ("add", A, A), None)
        self.check(TooMany, {"what": "levels", "most": 30}, front, classes, place, Weights({"add": 5}, 1))

    def test_equal_sizes_with_unlike_levels(self):
        # Two members of 33 leaves and labels: one has 33 levels, the other few, and both need 2 registers at most.
        row = ("call g 0",)
        for _ in range(32):
            row = ("neg", row)
        flat = ("call h 0", *[("neg", ("neg", ("neg", A)))] * 6)
        while size_of(flat) < 33:
            flat = ("neg", flat)
        self.assertEqual((size_of(row), levels_of(row), size_of(flat)), (33, 33, 33))
        self.assertLess(levels_of(flat), 31)
        for one, other in ((row, flat), (flat, row)):
            classes = Classes()
            classes.join(one, other, None)
            self.assertEqual(front(classes, classes.class_of(one), ONES).entries, ((1, 33, flat),))
        classes = Classes()
        place = classes.put(row)
        self.check(TooMany, {"what": "levels", "most": 30}, front, classes, place, ONES)

    def test_endless_sizes(self):
        classes, places = doubled(60)
        dear = Weights({"call": RIM}, 1)
        # The great member of the 10th class has a need of 11, that of the 20th one too great a need.
        self.check(TooMany, {"what": "size", "most": 2000}, front, classes, places[10], dear)
        self.assertEqual([entry[:2] for entry in front(classes, places[9], dear).entries], [(1, RIM), (10, 1023)])
        self.assertEqual([entry[:2] for entry in front(classes, places[20], dear).entries], [(1, RIM)])


class TestStoredBest(Raises, unittest.TestCase):
    def test_against_sums_over_levels(self):
        cuts = []
        for seed in range(12):
            classes = drawn(seed, 8, 26)
            for cost, price, many in ((ONES, 1, 3), (weights(seed), 1, 3), (weights(seed), 2, 4), (ONES, RIM, 3), (ONES, 3, 16)):
                floors = floors_of(classes, cost, many, price)
                for place in classes.places:
                    paper = stored_best(classes, place, cost, price, many)
                    self.assertEqual(classes.class_of(paper.term), place)
                    self.assertTrue(fits(paper.term, many, paper.cut))
                    self.assertTrue(makes(paper.term, many, rows_with_cut(paper.term, many, paper.cut)))
                    self.assertEqual(cost_of(paper.term, cost) + price * len(paper.cut), floors[place][-1])
                    self.assertEqual(dict(paper.floors)[place], floors[place])
                    self.assertIs(shows_stored_best(classes, place, cost, price, many, paper), True)
                    cuts.append(len(paper.cut))
        self.assertGreater(len([one for one in cuts if one > 0]), 10)

    def test_against_all_members_and_cuts(self):
        looked = []
        for seed in range(60):
            classes = drawn(seed, 6, 18, False)
            cost, price, many = weights(seed), random.Random(seed).choice([1, 2, 5]), random.Random(seed).choice([3, 3, 4])
            for place in classes.places:
                if all_members(classes, place) < 6 and size_of(classes.first_term(place)) > 9:
                    best = None
                    for term in listed(classes, place):
                        places = [one for one in inner_places(term)]
                        if len(places) > 22:
                            continue
                        for size in range(4):
                            for cut in itertools.combinations(places, size):
                                worth = cost_of(term, cost) + price * size
                                if (best is None or worth < best) and fits(term, many, cut):
                                    best = worth
                    paper = stored_best(classes, place, cost, price, many)
                    if all(len(inner_places(term)) <= 22 for term in listed(classes, place)):
                        self.assertEqual(cost_of(paper.term, cost) + price * len(paper.cut), best)
                        looked.append(len(paper.cut))
        self.assertGreater(len(looked), 20)

    def test_some(self):
        classes = Classes()
        place = classes.put(EIGHT)
        self.assertEqual([len(stored_best(classes, place, ONES, 7, many).cut) for many in (3, 4, 16)], [1, 0, 0])
        self.assertEqual(dict(stored_best(classes, place, ONES, 7, 3).floors)[place], (None, 29, 22))
        # A dear member without a store is taken if the price is above what it costs more.
        row = A
        for other in (B, C, D, A, C, B, D):
            row = ("add", row, other)
        classes.join(EIGHT, ("neg", ("neg", ("neg", row))), None)
        for price, cut in ((1, 1), (2, 1), (4, 0), (RIM, 0)):
            paper = stored_best(classes, place, ONES, price, 3)
            self.assertEqual((len(paper.cut), cost_of(paper.term, ONES)), (cut, 15 if cut else 18))
        self.assertEqual(cost_of(stored_best(classes, place, ONES, 3, 3).term, ONES) + 3 * len(stored_best(classes, place, ONES, 3, 3).cut), 18)

    def test_stores_within_stores(self):
        classes = Classes()
        term = balanced("add", [A] * 64)
        place = classes.put(term)
        paper = stored_best(classes, place, ONES, 1, 3)
        self.assertEqual((paper.term, len(paper.cut)), (term, 15))
        self.assertEqual(list(paper.cut), sorted(set(paper.cut)))
        self.assertTrue(fits(term, 3, paper.cut))

    def test_form(self):
        classes = drawn(4)
        paper = stored_best(classes, classes.places[-1], ONES, 2, 5)
        self.assertTrue(has_no_list(paper.parts))
        self.assertEqual((paper.word, paper.parts), ("storedbest", (paper.term, paper.cut, paper.floors)))
        self.assertTrue(all(len(worths) == 5 for _, worths in paper.floors))
        self.assertEqual(stored_best(many=5, price=2, cost=ONES, place=classes.places[-1], classes=classes), paper)
        self.assertEqual(StoredBest(floors=[1], cut=[[2]], term=3).parts, (3, ((2,),), (1,)))
        self.assertEqual((type(paper).__bases__, isinstance(paper, Denial), bool(paper)), ((Paper,), False, True))

    def test_bounds(self):
        classes = Classes()
        place = classes.put(balanced("add", [A] * 1000))
        self.assertEqual(size_of(stored_best(classes, place, ONES, 1, 3).term), 1999)
        place = classes.put(("neg", ("neg", balanced("add", [A] * 1000))))
        self.check(TooMany, {"what": "size", "most": 2000}, stored_best, classes, place, ONES, 1, 3)
        row = A
        for _ in range(29):
            row = ("neg", row)
        classes = Classes()
        self.assertEqual(stored_best(classes, classes.put(row), ONES, 1, 3).term, row)
        self.check(TooMany, {"what": "levels", "most": 30}, stored_best, classes, classes.put(("neg", row)), ONES, 1, 3)
        # No need is too great, as parts are stored.
        classes = Classes()
        place = classes.put(heavy(5, A))
        self.assertEqual(need_of(heavy(5, A)), 11)
        self.assertGreater(len(stored_best(classes, place, ONES, 1, 3).cut), 50)
        self.check(TooMany, {"what": "size", "most": 2000}, stored_best, classes, classes.put(heavy(8, A)), ONES, 1, 3)


class TestErrors(Raises, unittest.TestCase):
    def test_errors(self):
        box = Classes()
        box.put(EIGHT)
        box.put(heavy(8, A))
        top = box.class_of(heavy(8, A))
        for bad in [*STRANGE, 5, (), [box]]:
            self.check_part(BadClasses, "classes", front, bad, None, None)
            self.check_part(BadClasses, "classes", stored_best, bad, None, None, None, None)
        for bad in [*STRANGE, -1, 10 ** 9, "0", (0,), 0.0]:
            self.check(NoClass, {"value": bad}, front, box, bad, None)
            self.check(NoClass, {"value": bad}, stored_best, box, bad, None, None, None)
        for bad in [*STRANGE, 5, (), Weights, {"add": 1}, Depth([], 1), Needs(), Both(ONES, Needs())]:
            self.check_part(BadCost, "cost", front, box, top, bad)
            self.check_part(BadCost, "cost", stored_best, box, top, bad, None, None)
        for bad in [*STRANGE, 0, -1, RIM + 1, "1", (1,)]:
            self.check_part(BadNumber, "price", stored_best, box, top, ONES, bad, None)
        for bad in [*STRANGE, 2, 17, 0, "3", (3,)]:
            self.check_part(BadNumber, "many", stored_best, box, top, ONES, 1, bad)
        for price, many in ((1, 3), (RIM, 16)):
            self.assertEqual(stored_best(box, 0, ONES, price, many).term, A)

    def test_nothing_is_changed(self):
        box = drawn(2)
        copy = box.copy()
        front(box, box.places[-1], ONES)
        stored_best(box, box.places[-1], ONES, 1, 3)
        self.assertTrue(copy == box)


class TestTime(unittest.TestCase):
    def test_many_nodes_in_a_short_time(self):
        started = time.time()
        rng = random.Random(9)
        draw = DrawCalls(rng, [A, B, C, D, X, Y, P, FALSE, ZERO, ONE], LABELS, FUNCTIONS)
        classes = Classes()
        for one, other in drawn_joins(rng, draw, 300, 40):
            classes.join(one, other, None)
        for place in classes.places[:3]:
            self.assertTrue(shows_front(classes, place, ONES, front(classes, place, ONES)))
            self.assertTrue(shows_stored_best(classes, place, ONES, 1, 16, stored_best(classes, place, ONES, 1, 16)))
        self.assertGreater(classes.many, 800)
        self.assertLess(time.time() - started, 20)


if __name__ == "__main__":
    unittest.main()
