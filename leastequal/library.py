"""A book of rules that hold at every width."""

from leastequal.rules import Book, Rule
from leastequal.term_texts import read_term

# By rule: its name, the texts of its left and its right term, and its ways.
RULES = (
    ("addzero", "( add x 0 )", "x", 1),
    ("addswap", "( add x y )", "( add y x )", 2),
    ("addmove", "( add ( add x y ) z )", "( add x ( add y z ) )", 2),
    ("subself", "( sub x x )", "0", 1),
    ("subneg", "( sub x y )", "( add x ( neg y ) )", 2),
    ("negneg", "( neg ( neg x ) )", "x", 1),
    ("mulone", "( mul x 1 )", "x", 1),
    ("mulzero", "( mul x 0 )", "0", 1),
    ("mulswap", "( mul x y )", "( mul y x )", 2),
    ("mulmove", "( mul ( mul x y ) z )", "( mul x ( mul y z ) )", 2),
    ("mulspread", "( mul x ( add y z ) )", "( add ( mul x y ) ( mul x z ) )", 2),
    ("multwo", "( mul x 2 )", "( shl 1 x )", 2),
    ("muleight", "( mul x 8 )", "( shl 3 x )", 2),
    ("addself", "( add x x )", "( shl 1 x )", 2),
    ("shlshl", "( shl 1 ( shl 1 x ) )", "( shl 2 x )", 2),
    ("andself", "( and x x )", "x", 1),
    ("orself", "( or x x )", "x", 1),
    ("xorself", "( xor x x )", "0", 1),
    ("andzero", "( and x 0 )", "0", 1),
    ("andswap", "( and x y )", "( and y x )", 2),
    ("orswap", "( or x y )", "( or y x )", 2),
    ("xorswap", "( xor x y )", "( xor y x )", 2),
    ("flipflip", "( flip ( flip x ) )", "x", 1),
    ("flipsub", "( flip x )", "( sub -1 x )", 2),
    ("flipand", "( flip ( and x y ) )", "( or ( flip x ) ( flip y ) )", 2),
    ("andspread", "( and x ( or y z ) )", "( or ( and x y ) ( and x z ) )", 2),
    ("absorb", "( and x ( or x y ) )", "x", 1),
    ("addbits", "( add x y )", "( add ( xor x y ) ( shl 1 ( and x y ) ) )", 2),
    ("eqself", "( eq x x )", "true", 1),
    ("eqswap", "( eq x y )", "( eq y x )", 2),
    ("eqsub", "( eq x y )", "( eq ( sub x y ) 0 )", 2),
    ("ltzero", "( lt x 0 )", "false", 1),
    ("iftrue", "( if true x y )", "x", 1),
    ("iffalse", "( if false x y )", "y", 1),
    ("ifsame", "( if ?p x x )", "x", 1),
    ("ifno", "( if ( no ?p ) x y )", "( if ?p y x )", 2),
    ("ifadd", "( add ( if ?p x y ) z )", "( if ?p ( add x z ) ( add y z ) )", 2),
    ("ifeq", "( if ( eq x y ) x y )", "y", 1),
    ("noboth", "( no ( both ?p ?q ) )", "( either ( no ?p ) ( no ?q ) )", 2),
    ("bothswap", "( both ?p ?q )", "( both ?q ?p )", 2),
)


def library(least):
    """The Book of all these rules for a least width."""
    return Book(least, [Rule(name, read_term(left), read_term(right), ways) for name, left, right, ways in RULES])
