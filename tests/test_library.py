"""The library of rules."""

import random
import unittest

from helpers import STRANGE, Raises, all_told, name, flag, worth
from leastequal.errors import BadNumber
from leastequal.library import library
from leastequal.rules import Book, Rule, taken
from leastequal.term_texts import read_term, term_text
from leastequal.terms import flags_in, names_in

# The table of the document: name, left, right, ways.
TABLE = """addzero | ( add x 0 ) | x | 1
addswap | ( add x y ) | ( add y x ) | 2
addmove | ( add ( add x y ) z ) | ( add x ( add y z ) ) | 2
subself | ( sub x x ) | 0 | 1
subneg | ( sub x y ) | ( add x ( neg y ) ) | 2
negneg | ( neg ( neg x ) ) | x | 1
mulone | ( mul x 1 ) | x | 1
mulzero | ( mul x 0 ) | 0 | 1
mulswap | ( mul x y ) | ( mul y x ) | 2
mulmove | ( mul ( mul x y ) z ) | ( mul x ( mul y z ) ) | 2
mulspread | ( mul x ( add y z ) ) | ( add ( mul x y ) ( mul x z ) ) | 2
multwo | ( mul x 2 ) | ( shl 1 x ) | 2
muleight | ( mul x 8 ) | ( shl 3 x ) | 2
addself | ( add x x ) | ( shl 1 x ) | 2
shlshl | ( shl 1 ( shl 1 x ) ) | ( shl 2 x ) | 2
andself | ( and x x ) | x | 1
orself | ( or x x ) | x | 1
xorself | ( xor x x ) | 0 | 1
andzero | ( and x 0 ) | 0 | 1
andswap | ( and x y ) | ( and y x ) | 2
orswap | ( or x y ) | ( or y x ) | 2
xorswap | ( xor x y ) | ( xor y x ) | 2
flipflip | ( flip ( flip x ) ) | x | 1
flipsub | ( flip x ) | ( sub -1 x ) | 2
flipand | ( flip ( and x y ) ) | ( or ( flip x ) ( flip y ) ) | 2
andspread | ( and x ( or y z ) ) | ( or ( and x y ) ( and x z ) ) | 2
absorb | ( and x ( or x y ) ) | x | 1
addbits | ( add x y ) | ( add ( xor x y ) ( shl 1 ( and x y ) ) ) | 2
eqself | ( eq x x ) | true | 1
eqswap | ( eq x y ) | ( eq y x ) | 2
eqsub | ( eq x y ) | ( eq ( sub x y ) 0 ) | 2
ltzero | ( lt x 0 ) | false | 1
iftrue | ( if true x y ) | x | 1
iffalse | ( if false x y ) | y | 1
ifsame | ( if ?p x x ) | x | 1
ifno | ( if ( no ?p ) x y ) | ( if ?p y x ) | 2
ifadd | ( add ( if ?p x y ) z ) | ( if ?p ( add x z ) ( add y z ) ) | 2
ifeq | ( if ( eq x y ) x y ) | y | 1
noboth | ( no ( both ?p ?q ) ) | ( either ( no ?p ) ( no ?q ) ) | 2
bothswap | ( both ?p ?q ) | ( both ?q ?p ) | 2"""


class TestLibrary(Raises, unittest.TestCase):
    def test_as_the_table_tells(self):
        rows = [tuple(part.strip() for part in line.split("|")) for line in TABLE.split("\n")]
        book = library(1)
        self.assertIsInstance(book, Book)
        self.assertEqual([(rule.name, term_text(rule.left), term_text(rule.right), str(rule.ways)) for rule in book.rules], rows)
        self.assertEqual((len(rows), rows[0][0], rows[39][0]), (40, "addzero", "bothswap"))
        self.assertEqual(book.rules[34], Rule("ifsame", ("if", flag("p"), name("x"), name("x")), name("x"), 1))
        self.assertEqual(book.rules[27].right, read_term("( add ( xor x y ) ( shl 1 ( and x y ) ) )"))

    def test_each_holds_at_small_widths(self):
        rng = random.Random(1)
        for rule in library(1).rules:
            leaves = [name(one) for one in names_in(rule.left)] + [flag(one) for one in flags_in(rule.left)]
            for width in (1, 2, 3):
                for told in all_told(leaves, width):
                    self.assertEqual(worth(rule.left, width, told, {}), worth(rule.right, width, told, {}), rule.name)
            for width in (8, 31, 32, 33, 64, 300):
                for _ in range(20):
                    told = {leaf: rng.randrange(2 ** width) if leaf[0] == "name" else rng.random() < 0.5 for leaf in leaves}
                    self.assertEqual(worth(rule.left, width, told, {}), worth(rule.right, width, told, {}), rule.name)

    def test_each_is_taken(self):
        for least in (1, 8):
            for rule in library(least).rules:
                self.assertEqual(taken(rule, least).word, "taken")

    def test_least_widths(self):
        for least in range(1, 9):
            self.assertEqual(library(least).least, least)
            self.assertEqual(library(least=least).rules, library(1).rules)
            self.assertEqual(library(least), library(least))
        for bad in [*STRANGE, 0, 9, -1, "1", [1]]:
            self.check_part(BadNumber, "least", library, bad)


if __name__ == "__main__":
    unittest.main()
