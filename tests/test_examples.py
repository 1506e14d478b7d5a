"""The examples of the document, as they stand there."""

import importlib
import unittest

MODULES = (
    "errors", "checks", "papers", "words", "terms", "term_texts", "program", "program_texts",
    "meaning", "runs", "plain", "every", "check_every",
    "polynomials", "rules", "check_rules", "calls", "leads", "shelves", "check_leads",
    "classes", "matching", "rounds", "chains", "check_chains", "members", "check_members", "costs",
    "registers", "cheapest", "check_cheapest", "stores", "fronts", "check_fronts",
    "code", "machine", "made", "check_code", "library", "better", "check_better",
)

# By file: the lines of its examples. "raises ..." tells the error that a line raises.
EXAMPLES = (
    ("checks", r'''
>>> [is_integer(True), is_within(3, None, 3), pairs_of({"x": 4}), pairs_of([["x", 4], ("x", 4)]), first_twice([2, 1, 1, 2])]
[False, True, (('x', 4),), None, 1]
'''),
    ("words", r'''
>>> [word(21, 4), word(-1, 4), signed(9, 4), signed(7, 4)]
[5, 15, -7, 7]
>>> [worked("mul", 4, [7, 5]), worked("shl 2", 4, [5]), worked("flip", 4, [5]), worked("neg", 4, [5]), worked("if", 4, [False, 3, 9])]
[3, 4, 10, 11, 9]
>>> [shape_of("if"), shape_of("no"), shape_of("shl 32")]
[('word', ('truth', 'word', 'word')), ('truth', ('truth',)), None]
'''),
    ("terms", r'''
>>> x, y, p = ("name", "x"), ("name", "y"), ("flag", "p")
>>> whole = ("if", ("both", p, ("lt", x, ("number", 3))), ("shl 2", x), ("call step 0", y, ("add", x, x)))
>>> [is_term(whole), is_term(("add", x, p)), is_term(("shl 32", x)), is_term(["neg", ["number", 5]]), is_term(("loop step 0", x)), is_term(("name", "true"))]
[True, False, False, True, False, False]
>>> [is_word(whole), is_word(whole[1]), size_of(whole), levels_of(whole), names_in(whole), flags_in(whole), levels_of(("call one 0",))]
[True, False, 13, 4, ('x', 'y'), ('p',), 1]
>>> places_of(("add", ("neg", x), y))
((), (0,), (0, 0), (1,))
>>> [part_at(whole, (0, 1, 1)), with_part(("add", x, y), [1], ("neg", y))]
[('number', 3), ('add', ('name', 'x'), ('neg', ('name', 'y')))]
>>> put_in(("if", ("flag", "x"), x, y), [("x", ("number", 1)), ("z", x)])
('if', ('flag', 'x'), ('number', 1), ('name', 'y'))
>>> with_part(whole, [0], x)
raises Misfit('kind')
'''),
    ("term_texts", r'''
>>> [term_text(whole), read_term("( neg -5 )"), read_term("?p"), read_term("( call one 0 )")]
['( if ( both ?p ( lt x 3 ) ) ( shl 2 x ) ( call step 0 y ( add x x ) ) )', ('neg', ('number', -5)), ('flag', 'p'), ('call one 0',)]
>>> read_term("( add x ?p )")
raises BadText(0, 3)
>>> read_term("( add x")
raises BadText(0, 3)
'''),
    ("program", r'''
>>> step = Function("step", ["x", "y"], [y, ("add", x, y)])
>>> n = ("name", "n")
>>> count = ("while", ("lt", ("number", 0), n), [("tell", n), ("set", "n", ("sub", n, ("number", 1)))])
>>> fib = Program(2, 10, [step], ["n"], [("put", n, ("loop step 0", n, ("number", 0), ("number", 1))), count])
>>> [len(terms_of(fib)), terms_of(fib)[1], terms_of(fib)[4]]
[7, ('add', ('name', 'x'), ('name', 'y')), ('lt', ('number', 0), ('name', 'n'))]
>>> [unfit([step], ("call step 2", n, n)), unfit([step], ("add", ("call step 0", n), ("call go 0",))), unfit([step], ("loop step 1", n, n, n))]
[('call', 'call step 2'), ('function', 'go'), None]
>>> [with_terms(fib, terms_of(fib)) == fib]
[True]
>>> Program(1, 0, [], [], [("tell", ("call step 0", n, n))])
raises NoFunction('step')
'''),
    ("program_texts", r'''
>>> program_text(fib)
'program 2 10\nfunction step x y\nresult y\nresult ( add x y )\ninputs n\nput n ( loop step 0 n 0 1 )\nwhile ( lt 0 n )\ntell n\nset n ( sub n 1 )\nend'
>>> [read_program(program_text(fib)) == fib]
[True]
>>> read_program("program 1 0\ninputs\nwhen true\nelse\nend")
raises BadText(4, 0)
'''),
    ("meaning", r'''
>>> x, y, n = ("name", "x"), ("name", "y"), ("name", "n")
>>> step = Function("step", ["x", "y"], [y, ("add", x, y)])
>>> count = ("while", ("lt", ("number", 0), n), [("tell", n), ("set", "n", ("sub", n, ("number", 1)))])
>>> deeds = [("set", "a", ("loop step 0", n, ("number", 0), ("number", 1))), ("put", n, ("name", "a")), count]
>>> program = Program(2, 10, [step], ["n"], deeds)
>>> [results(program, "step", 4, [9, 9], {}), value(program, ("call step 1", x, x), 4, {"x": 9}, {})]
[(9, 2), 2]
>>> [value(program, ("loop step 0", x, ("number", 0), ("number", 1)), 8, {"x": many}, []) for many in [0, 1, 7, 12]]
[0, 1, 13, 55]
>>> [value(program, ("at", ("add", x, ("number", -1))), 4, {"x": 3}, {2: 9}), value(program, ("if", ("flag", "p"), x, y), 4, [("p", False), ("x", 1), ("y", 6)], [])]
[9, 6]
>>> value(program, ("add", ("call jump 0",), y), 4, {}, {})
raises NoFunction('jump')
>>> value(program, ("add", y, x), 4, {"x": True}, {})
raises NoName('x')
'''),
    ("runs", r'''
>>> end = run(program, 4, [2], {}, [], 100)
>>> [end.outcome, end.names, end.memory, end.told, end.turns]
['done', (('a', 1), ('n', 0)), ((2, 1),), (2, 1), 9]
>>> short = run(program, 4, [2], {}, [], 6)
>>> [short.outcome, short.names, short.told, short.turns, run(program, 4, [18], [(2, 0)], (), 9) == end]
['short', (('a', 1), ('n', 1)), (2,), 6, True]
>>> talk = Program(1, 0, [], [], [("ask", "x"), ("tell", ("neg", x)), ("when", ("eq", x, y), [("ask", "z")], [("put", x, x)])])
>>> [run(talk, 3, [], {}, [10], 9).told, run(talk, 3, [], {1: 7}, [10], 9).memory, run(talk, 3, [], {}, [8, -1], 9).names, run(talk, 3, [], {}, [], 2).outcome]
[(6,), ((1, 7), (2, 2)), (('x', 0), ('z', 7)), 'short']
'''),
    ("plain", r'''
>>> plain_value(("less", ("name", "x"), ("at", ("number", 1))), 3, {"x": 4}, {}, {1: 3})
True
>>> pieces_of(("eq", ("at", ("name", "x")), ("number", 0)))
((('name', 'x'), ('name', '#0'), ('number', 0), ('eq', ('name', '#0'), ('number', 0))), (('name', 'x'),))
'''),
    ("every", r'''
>>> holds(("eq", ("add", ("name", "x"), ("name", "x")), ("shl 1", ("name", "x"))), 1).word
'holds'
>>> [holds(("no", ("eq", ("number", 2), ("number", 0))), 1) == Fails(1, (), (), ()), holds(("no", ("eq", ("number", 2), ("number", 0))), 2).word]
[True, 'holds']
'''),
    ("check_every", r'''
>>> double = ("eq", ("add", ("name", "x"), ("name", "x")), ("shl 1", ("name", "x")))
>>> [shows_holds(double, 1, Holds([[[], [[0, 0, 0, 1], [1, 0, 0, 1], [1, 1, 1, 1]]]])), shows_holds(double, 1, Holds([[[], [[0, 0, 0, 1], [1, 0, 0, 1]]]]))]
[True, False]
>>> one = ("eq", ("name", "x"), ("number", 1))
>>> [shows_fails(one, 1, Fails(2, [["x", 3]], [], [])), shows_fails(one, 1, Fails(2, [["x", 1]], [], [])), shows_fails(one, 1, Fails(2, [["x", 5]], [], []))]
[True, False, False]
'''),
    ("polynomials", r'''
>>> x, y, z = ("name", "x"), ("name", "y"), ("name", "z")
>>> [polynomial(("sub", ("mul", x, ("add", x, ("number", 3))), ("shl 2", x))), polynomial(("sub", x, x))]
[((('x',), -1), (('x', 'x'), 1)), ()]
>>> [parting(("mul", x, x), x), parting(("mul", x, x), x, 3), parting(("mul", x, y), ("mul", y, x)), parting(("shl 5", ("mul", x, y)), ("number", 0))]
[(2, (('x', 2),)), (3, (('x', 2),)), None, (6, (('x', 1), ('y', 1)))]
'''),
    ("rules", r'''
>>> low = ("and", x, ("number", 1))
>>> plain_form(("mul", low, ("add", y, ("number", 1))), ("mul", ("add", ("number", 1), ("number", 2)), y))
(('eq', ('add', ('and', ('name', 'x'), ('number', 1)), ('name', 'p0')), ('mul', ('number', 3), ('name', 'y'))), (('p0', ('mul', ('and', ('name', 'x'), ('number', 1)), ('name', 'y'))),))
>>> double, square = Rule("double", ("add", x, x), ("shl 1", x), 2), ("mul", x, x)
>>> [taken(double, 1).parts, judged(square, x, 3).parts, judged(("and", ("mul", x, y), x), x, 1).parts]
[('sums', ((('x',), 2),)), (3, (('x', 2),), (), ()), (1, (('x', 1), ('y', 0)), (), ())]
>>> unsure = judged(("and", square, ("number", 2)), ("number", 0), 1)
>>> [unsure.word, unsure.paper.width, bool(unsure)]
['unsure', 2, False]
'''),
    ("check_rules", r'''
>>> [shows_judged(square, x, 1, NotTaken(5, [["x", 30]], [], [])), shows_judged(square, x, 1, NotTaken(1, [["x", 1]], [], [])), shows_judged(square, x, 1, Taken("sums", [[["x", "x"], 1]]))]
[True, False, False]
'''),
    ("calls", r'''
>>> up = Function("up", ["i"], [read_term("( add i 1 )")])
>>> two = Function("two", ["t"], [read_term("( add t 2 )")])
>>> pair = Function("pair", ["a", "b"], [read_term("( add a 1 )"), read_term("( add b a )")])
>>> program = Program(3, 5, [up, two, pair], [], [])
>>> [(rule.name, term_text(rule.left), term_text(rule.right), rule.ways) for rule in call_rules(program)][2:]
[('call pair 0', '( call pair 0 a b )', '( add a 1 )', 1), ('call pair 1', '( call pair 1 a b )', '( add b a )', 1)]
>>> [folded(read_term("( sub 3 5 )")), folded(read_term("( flip 0 )"))]
[('number', -2), ('number', -1)]
>>> [term_text(turned(program, read_term("( loop pair 1 2 x ( neg y ) )"))), turned(program, read_term("( loop pair 1 0 x y )"))]
['( loop pair 1 1 ( call pair 0 x ( neg y ) ) ( call pair 1 x ( neg y ) ) )', ('name', 'y')]
'''),
    ("leads", r'''
>>> double, drop = Lead("double", "up", "two", [read_term("( shl 1 i )")]), Lead("drop", "pair", "up", [("name", "a")])
>>> [[term_text(side) for side in sides] for sides in sides_of(program, double) + sides_of(program, drop)]
[['( add ( shl 1 i ) 2 )', '( shl 1 ( add i 1 ) )'], ['( add a 1 )', '( add a 1 )']]
>>> [bool(led(program, double)), bool(led(program, drop)), led(program, Lead("wrong", "up", "two", [("name", "i")])).index]
[True, True, 0]
>>> [(rule.name, term_text(rule.left), term_text(rule.right), rule.ways) for rule in lead_rules(program, double) + lead_rules(program, drop)]
[('lead double 0', '( shl 1 ( loop up 0 count i ) )', '( loop two 0 count ( shl 1 i ) )', 2), ('lead drop 0', '( loop pair 0 count a b )', '( loop up 0 count a )', 1)]
'''),
    ("shelves", r'''
>>> shelf = Shelf(program, Book(3, [Rule("plus", read_term("( add x 0 )"), ("name", "x"), 1)]), [double, drop])
>>> [[rule.name for rule in shelf.rules], [rule.name for rule in shelf.before(2).rules]]
[['plus', 'call up 0', 'call two 0', 'call pair 0', 'call pair 1', 'lead double 0', 'lead drop 0'], ['plus', 'call up 0', 'call two 0', 'lead double 0']]
'''),
    ("check_leads", r'''
>>> wrong = Lead("wrong", "up", "two", [("name", "i")])
>>> [shows_led(program, double, led(program, double)), shows_led(program, wrong, led(program, wrong)), shows_led(program, double, Led([]))]
[True, True, False]
'''),
    ("classes", r'''
>>> classes = Classes()
>>> [classes.put(read_term("( add x 0 )")), classes.places, classes.many, classes.nodes(2), classes.class_of(read_term("( add 0 x )"))]
[2, (0, 1, 2), 3, (('add', 0, 1),), None]
>>> [classes.join(read_term("( add x 0 )"), ("name", "x"), "plus"), classes.places, classes.nodes(0), classes.first_term(0)]
[True, (0, 1), (('add', 0, 1), ('name', 'x')), ('name', 'x')]
>>> [classes.class_of(read_term("( add ( add x 0 ) 0 )")), classes.join(("name", "x"), read_term("( add ( add x 0 ) 0 )"), None), classes.record]
[0, False, ((('add', ('name', 'x'), ('number', 0)), ('name', 'x'), 'plus'),)]
>>> other = Classes()
>>> [other.put(read_term("( neg a )")), other.put(read_term("( neg b )")), other.join(("name", "b"), ("name", "a"), 7), other.places, other.nodes(1), other.kind(1)]
[1, 3, True, (0, 1), (('neg', 0),), 'word']
>>> [other.first_term(1), other.put(read_term("( mul b 2 )")), other.places, other.copy() == other]
[('neg', ('name', 'a')), 5, (0, 1, 4, 5), True]
>>> other.nodes(3)
raises NoClass(3)
>>> other.join(("true",), ("name", "a"), None)
raises Misfit('kinds')
'''),
    ("matching", r'''
>>> side = read_term("( if ?p ( add x ( mul x y ) ) 0 )")
>>> [matched(side, read_term("( if ( eq a 1 ) ( add 3 ( mul 3 a ) ) 0 )")), matched(side, read_term("( if true ( add 3 ( mul 4 a ) ) 0 )"))]
[(('p', ('eq', ('name', 'a'), ('number', 1))), ('x', ('number', 3)), ('y', ('name', 'a'))), None]
>>> double, swap, zero = Rule("double", read_term("( mul x 2 )"), read_term("( add x x )"), 2), Rule("swap", read_term("( add x y )"), read_term("( add y x )"), 2), Rule("zero", read_term("( add x 0 )"), read_term("x"), 1)
>>> up = Function("up", ["x"], [read_term("( add x 1 )")])
>>> program = Program(2, 3, [up], ["a"], [])
>>> shelf = Shelf(program, Book(2, [double, swap, zero]), [])
>>> box = Classes()
>>> [box.put(read_term("( add ( mul a 2 ) 0 )")), box.nodes(2), box.nodes(4)]
[4, (('mul', 0, 1),), (('add', 2, 3),)]
>>> [matches(box, double, 1), matches(box, double, -1), matches(box, swap, 1), matches(box, swap, -1), matches(box, zero, 1)]
[((2, (0,)),), (), ((4, (2, 3)),), ((4, (3, 2)),), ((4, (2,)),)]
>>> matches(box, zero, -1)
raises Misfit('way')
>>> loops = Classes()
>>> [loops.put(read_term("( loop up 0 2 ( add 1 1 ) )")), folds(loops), turns(loops, program)]
[3, ((2, ('add', ('number', 1), ('number', 1))),), ((3, 'loop up 0', 2, (2,)),)]
'''),
    ("rounds", r'''
>>> [round_of(box, shelf, 3), round_of(box, shelf, 100), box.places, box.nodes(2), round_of(box, shelf, 100)]
[(4, True, False), (4, False, False), (0, 1, 2, 3), (('add', 0, 0), ('add', 2, 3), ('add', 3, 2), ('mul', 0, 1)), (9, False, True)]
>>> [(term_text(one), term_text(other), why[0], why[1]) for one, other, why in box.record]
[('( mul a 2 )', '( add a a )', 'double', 1), ('( add ( mul a 2 ) 0 )', '( add 0 ( mul a 2 ) )', 'swap', 1), ('( add ( mul a 2 ) 0 )', '( mul a 2 )', 'zero', 1)]
>>> told = grown(read_term("( loop up 0 2 ( add 1 1 ) )"), shelf, 6, 50)
>>> [told.place, told.rounds, told.cut, told.still, told.classes.many, term_text(told.classes.first_term(told.place))]
[3, 5, False, True, 16, '4']
>>> told = grown(read_term("( add ( mul a 2 ) 0 )"), shelf, 5, 4)
>>> [told.rounds, told.cut, told.still, told.classes.many]
[1, True, False, 7]
'''),
    ("chains", r'''
>>> two, none = Rule("two", read_term("( mul x 2 )"), read_term("( add x x )"), 2), Rule("none", read_term("( add x 0 )"), read_term("x"), 1)
>>> shelf = Shelf(Program(4, 10, [], [], []), Book(4, [two, none]), [])
>>> a, start, end = ("name", "a"), read_term("( mul ( add a 0 ) 2 )"), read_term("( add a a )")
>>> steps = [Step("none", 1, (0,), [("x", a)]), Step("two", 1, (), [("x", a)])]
>>> [term_text(done(shelf, start, steps[0])), term_text(after(shelf, start, steps)), term_text(done(shelf, end, Step("none", -1, [1], [["x", a]])))]
['( mul a 2 )', '( add a a )', '( add a ( add a 0 ) )']
>>> box = Classes()
>>> first = box.join(read_term("( add a 0 )"), a, ("none", 1, [("x", a)]))
>>> second = box.join(read_term("( mul a 2 )"), end, ("two", 1, [("x", a)]))
>>> found = chain(box, start, end)
>>> [moment(box, start, end), moment(box, a, read_term("( add ( add a 0 ) 0 )")), moment(box, a, ("name", "b")), after(shelf, start, plain_steps(found)) == end]
[2, 1, None, True]
>>> short = Chain([Link(start, read_term("( mul a 2 )"), [steps[0]]), Link(start, end, [Use(0, 1, ()), steps[1]])])
>>> [many_steps(short), plain_steps(short) == tuple(steps), plain_steps(Chain([Link(start, start, [])]))]
[2, True, ()]
>>> [[term_text(term) for term in group] for group in chain(box, a, ("name", "b")).groups]
[['( add a a )', '( mul a 2 )'], ['( add a 0 )', 'a'], ['b'], ['0'], ['2']]
'''),
    ("check_chains", r'''
>>> [shows_chain(shelf, start, end, found), shows_chain(shelf, start, end, short), shows_chain(shelf, end, start, short), shows_chain(shelf, start, end, Chain([Link(start, end, [steps[1]])]))]
[True, True, False, False]
>>> apart = chain(box, a, ("name", "b"))
>>> [shows_apart(box, a, ("name", "b"), apart), shows_apart(box, a, ("name", "b"), Apart(apart.groups[:-1])), shows_apart(box, a, read_term("( add a 0 )"), apart)]
[True, False, False]
'''),
    ("members", r'''
>>> x, zero = ("name", "x"), ("number", 0)
>>> web, lone = Classes(), Classes()
>>> started = [web.join(("add", x, zero), x, ("plain", 1, (("x", x),))), lone.put(x)]
>>> [web.nodes(0), web.nodes(1), [many_members(web, 0, size) for size in (1, 2, 3, 4, 5)], is_endless(web, 0), all_members(web, 1)]
[(('add', 0, 1), ('name', 'x')), (('number', 0),), [1, 0, 1, 0, 1], True, 1]
>>> member_at(web, 0, 5, 0), index_of(web, 0, ("add", x, zero))
(('add', ('add', ('name', 'x'), ('number', 0)), ('number', 0)), (3, 0))
>>> same_members(web, 0, lone, 0) == Parting(("add", x, zero)), sorted(same_members(lone, 0, lone, 0).pairs)
(True, [(0, 0)])
'''),
    ("costs", r'''
>>> dear = Weights([("mul", 4), ("add", 2)], 1)
>>> [cost_of(("add", ("mul", x, ("number", 7)), x), cost) for cost in (dear, Depth({"mul": 3}, 1), Needs(), Both(Weights([], 1), Needs()))]
[9, 5, 2, (5, 2)]
>>> work_weights(Program(1, 3, [Function("f", ["x"], [("add", x, x)])], [], [])).table
(('call f 0', 4), ('loop f 0', 10))
'''),
    ("check_members", r'''
>>> [shows_same_members(lone, 0, lone, 0, SameMembers([(0, 0)])), shows_same_members(web, 0, lone, 0, SameMembers([(0, 0), (1, None)])), shows_same_members(web, 0, lone, 0, Parting(x))]
[True, False, False]
'''),
    ("registers", r'''
>>> a, b, c, d = ("name", "a"), ("name", "b"), ("name", "c"), ("name", "d")
>>> wide, long = ("add", ("add", a, b), ("add", c, d)), ("add", ("add", ("add", a, b), c), d)
>>> [need_of(wide), need_of(long), need_of(("if", ("eq", a, b), c, d))]
[3, 2, 3]
>>> makes(("sub", a, b), 2, [("name", 1, "a"), ("name", 0, "b"), ("sub", 0, 1, 0)])
True
'''),
    ("cheapest", r'''
>>> two, web2 = ("number", 2), Classes()
>>> started = [web2.join(("mul", x, two), ("add", x, x), ("twice", 1, (("x", x),))), web2.join(("add", x, x), ("shl 1", x), ("up", 1, (("x", x),)))]
>>> [web2.nodes(2), floors(web2, dear), cheapest(web2, 2, dear).term, floors(web2, Needs())]
[(('add', 0, 0), ('mul', 0, 1), ('shl 1', 0)), ((0, 1), (1, 1), (2, 2)), ('shl 1', ('name', 'x')), ((0, 1), (1, 1), (2, 1))]
'''),
    ("check_cheapest", r'''
>>> [shows_cheapest(web2, 2, dear, Cheapest(("shl 1", x), told)) for told in ([(0, 1), (1, 0), (2, 2)], [(0, 0), (1, 0), (2, 2)], [(0, 1), (1, 1), (2, 1)])]
[True, False, False]
'''),
    ("stores", r'''
>>> eight = ("add", wide, ("mul", ("add", a, c), ("add", b, d)))
>>> [need_of(eight), fewest_stores(eight, 3), fewest_stores(eight, 4)]
[4, 1, 0]
'''),
    ("fronts", r'''
>>> kin, ones = Classes(), Weights([], 1)
>>> started = [kin.join(wide, ("sub", long, ("number", 0)), ("as told", 1, ()))]
>>> top = kin.class_of(wide)
>>> [entry[:2] for entry in front(kin, top, ones).entries]
[(2, 9), (3, 7)]
'''),
    ("check_fronts", r'''
>>> shows_front(kin, top, ones, front(kin, top, ones))
True
'''),
    ("code", r'''
>>> step = ("step", ["a", "n"], [[("name", 0, "a"), ("name", 1, "n"), ("add", 0, 0, 1)], [("name", 0, "n"), ("number", 1, 1), ("sub", 0, 0, 1)]])
>>> ahead = [("spend",), ("open",), ("name", 0, "x"), ("hand", 0), ("number", 0, 0), ("hand", 0), ("name", 0, "x"), ("hand", 0), ("loop step 0", 0), ("keep", "y", 0)]
>>> turn = [("spend",), ("number", 0, 0), ("name", 1, "y"), ("lt", 0, 0, 1), ("unless", 0, 24), ("spend",), ("name", 0, "y"), ("tell", 0)]
>>> less = [("spend",), ("name", 0, "y"), ("number", 1, 2), ("sub", 0, 0, 1), ("keep", "y", 0), ("go", 10)]
>>> last = [("spend",), ("number", 0, 3), ("name", 1, "x"), ("put", 0, 1)]
>>> code = Code(4, 10, 3, ["x"], [step], ahead + turn + less + last)
>>> [len(code.rows), code.rows[23], str(code).split("\n")[:5], Code.read(str(code)) == code]
[28, ('go', 10), ['least 4 rounds 10 registers 3', 'inputs x', 'function step a n', 'block', 'name 0 a'], True]
'''),
    ("machine", r'''
>>> full = run_code(code, 8, [3], [], [], 100)
>>> short = run_code(code, 8, [3], [], [], 4)
>>> [full.names, full.memory, full.told, full.turns, short.outcome, short.names, short.told, short.turns]
[(('x', 3), ('y', 0)), ((3, 3),), (6, 4, 2), 12, 'short', (('x', 3), ('y', 4)), (6,), 4]
'''),
    ("made", r'''
>>> loop = ("loop step 0", ("name", "x"), ("number", 0), ("name", "x"))
>>> fewer = [("tell", ("name", "y")), ("set", "y", ("sub", ("name", "y"), ("number", 2)))]
>>> deeds = [("set", "y", loop), ("while", ("lt", ("number", 0), ("name", "y")), fewer), ("put", ("number", 3), ("name", "x"))]
>>> count = Function("step", ["a", "n"], [("add", ("name", "a"), ("name", "n")), ("sub", ("name", "n"), ("number", 1))])
>>> whole = Program(4, 10, [count], ["x"], deeds)
'''),
    ("check_code", r'''
>>> [follows(whole, code), follows(whole, made(whole, 4)), follows(whole, Code(4, 10, 3, ["x"], [step], ahead + turn + less + last[:3] + [("put", 1, 0)]))]
[True, True, False]
>>> two = ("add", ("name", "x"), ("name", "x"))
>>> four = ("add", two, two)
>>> deep = Program(1, 0, [], ["x"], [("tell", ("add", four, four))])
>>> [registers_of(made(deep, 4)), cells_of(made(deep, 4)), registers_of(made(deep, 3)), cells_of(made(deep, 3)), run_code(made(deep, 3), 8, [5], [], [], 1).told]
[4, 0, 3, 1, (40,)]
'''),
    ("library", r'''
>>> [len(library(1).rules), library(3).least, library(1).rules[38].name]
[40, 3, 'noboth']
'''),
    ("better", r'''
>>> book = Book(1, [Rule("seven", ("add", ("mul", ("name", "x"), ("number", 7)), ("name", "x")), ("mul", ("name", "x"), ("number", 8)), 1), Rule("eight", ("mul", ("name", "x"), ("number", 8)), ("shl 3", ("name", "x")), 1)])
>>> program = Program(1, 0, [], ["x"], [("tell", ("add", ("mul", ("name", "x"), ("number", 7)), ("name", "x")))])
>>> value = better(program, book, [], 2, 100, Weights({"mul": 8, "add": 2}, 1))
>>> [value.program.deeds, value.turned[0][1:4]]
[(('tell', ('shl 3', ('name', 'x'))),), (('shl 3', ('name', 'x')), 2, 2)]
>>> run(value.program, 4, [5], {}, [], 9) == run(program, 4, [5], {}, [], 9)
True
'''),
    ("check_better", r'''
>>> shows_better(program, book, [], 2, 100, Weights({"mul": 8, "add": 2}, 1), value)
True
'''),
)


def names_of_all():
    """All public names of the package, as the examples leave imports out."""
    found = {}
    for module in MODULES:
        for key, told in vars(importlib.import_module(f"leastequal.{module}")).items():
            if not key.startswith("_"):
                found[key] = told
    return found


def steps_of(text):
    """The pairs of a line of an example and what it must show, None for nothing."""
    steps = []
    for line in text.strip("\n").split("\n"):
        if line.startswith(">>> "):
            steps.append((line[4:], None))
        else:
            steps[-1] = (steps[-1][0], line)
    return steps


class TestExamples(unittest.TestCase):
    def test_examples(self):
        scope = names_of_all()
        for file, text in EXAMPLES:
            for source, shown in steps_of(text):
                with self.subTest(file=file, source=source):
                    self.look_at(source, shown, scope)

    def look_at(self, source, shown, scope):
        if shown is None:
            exec(source, scope)
        elif shown.startswith("raises "):
            wanted = eval(shown[len("raises "):], scope)
            with self.assertRaises(type(wanted)) as caught:
                eval(source, scope)
            self.assertIs(type(caught.exception), type(wanted))
            self.assertEqual(vars(caught.exception), vars(wanted))
        else:
            self.assertEqual(repr(eval(source, scope)), shown)

    def test_all_are_here(self):
        self.assertEqual(sum(len(steps_of(text)) for _, text in EXAMPLES), 170)


if __name__ == "__main__":
    unittest.main()
