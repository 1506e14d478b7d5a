"""The form of the package: what of its language can be seen from outside, and the names of its interface."""

import ast
import importlib
import inspect
import unittest
from pathlib import Path

PACKAGE = Path(__file__).resolve().parent.parent / "leastequal"
FILES = sorted(PACKAGE.glob("*.py"))
# By file: the functions and classes of the interface with their parameters.
INTERFACE = {
    "checks": {
        "is_integer": "value", "is_within": "value least most", "are_pairs": "value", "pairs_of": "value", "first_twice": "values",
    },
    "papers": {"fixed": "value", "Paper": "word *parts", "Denial": "word *parts"},
    "words": {"word": "number width", "signed": "value width", "shape_of": "label", "worked": "label width values"},
    "terms": {
        "is_term": "value", "is_word": "term", "size_of": "term", "levels_of": "term", "names_in": "term", "flags_in": "term",
        "places_of": "term", "put_in": "term values", "part_at": "term place", "with_part": "term place other",
    },
    "term_texts": {"term_text": "term", "read_term": "text"},
    "program": {
        "Function": "name parameters results", "Program": "least rounds functions inputs deeds", "unfit": "functions term",
        "terms_of": "program", "with_terms": "program terms",
    },
    "program_texts": {"program_text": "program", "read_program": "text"},
    "meaning": {"value": "program term width names memory", "results": "program name width words memory"},
    "runs": {"Run": "outcome names memory told turns", "run": "program width inputs memory replies fuel"},
    "plain": {"is_plain": "term", "plain_value": "term width names flags memory", "pieces_of": "truth"},
    "every": {"weight_of": "truth", "holds": "truth least", "Holds": "tables", "Fails": "width names flags memory"},
    "check_every": {"shows_holds": "truth least value", "shows_fails": "truth least value"},
    "polynomials": {"is_sum_term": "term", "polynomial": "term", "alike_at": "one other width", "parting": "one other least=1"},
    "rules": {
        "Rule": "name left right ways", "plain_form": "left right", "judged": "left right least", "taken": "rule least", "Book": "least rules",
        "Taken": "way paper", "NotTaken": "width names flags memory", "Unsure": "paper",
    },
    "check_rules": {"shows_judged": "left right least value", "shows_taken": "rule least value"},
    "calls": {"call_rules": "program", "folded": "term", "turned": "program term"},
    "leads": {
        "Lead": "name one other terms", "sides_of": "program lead", "Led": "papers", "NotLed": "index paper", "led": "program lead",
        "lead_rules": "program lead",
    },
    "shelves": {"Shelf": "program book leads"},
    "check_leads": {"shows_led": "program lead value"},
    "classes": {"Classes": ""},
    "matching": {"matched": "side term", "matches": "classes rule way", "folds": "classes", "turns": "classes program"},
    "rounds": {"round_of": "classes shelf most", "Grown": "classes place rounds cut still", "grown": "term shelf rounds most"},
    "chains": {
        "Step": "rule way place terms", "Use": "link way place", "Link": "one other steps", "Chain": "links", "Apart": "groups",
        "done": "shelf term step", "after": "shelf term steps", "moment": "classes one other", "chain": "classes one other",
        "many_steps": "chain", "plain_steps": "chain",
    },
    "check_chains": {"shows_chain": "shelf one other value", "shows_apart": "classes one other value"},
    "members": {
        "many_members": "classes place size", "is_endless": "classes place", "all_members": "classes place", "index_of": "classes place term",
        "member_at": "classes place size index", "same_members": "classes place other its", "SameMembers": "pairs", "Parting": "term",
    },
    "costs": {
        "Weights": "table other", "Depth": "table other", "Needs": "", "Both": "first second", "cost_of": "term cost",
        "work_weights": "program",
    },
    "check_members": {"shows_same_members": "classes place other its value"},
    "registers": {"need_of": "term", "rows_of": "term many", "makes": "term many rows"},
    "cheapest": {"floors": "classes cost", "Cheapest": "term floors", "cheapest": "classes place cost"},
    "check_cheapest": {"shows_cheapest": "classes place cost value"},
    "stores": {"fewest_stores": "term many", "cut_of": "term many", "rows_with_cut": "term many cut", "rows_for": "term many"},
    "fronts": {
        "Front": "entries floors", "front": "classes place cost", "StoredBest": "term cut floors", "stored_best": "classes place cost price many",
    },
    "check_fronts": {
        "shows_front": "classes place cost value", "shows_stored_best": "classes place cost price many value",
    },
    "code": {"Code": "least rounds registers inputs functions rows"},
    "machine": {"run_code": "code width inputs memory replies fuel"},
    "made": {"made": "program many"},
    "check_code": {"follows": "program code", "need_of_program": "program", "registers_of": "code", "cells_of": "code"},
    "library": {"library": "least"},
    "better": {"Better": "program turned", "better": "program book leads rounds most cost"},
    "check_better": {"shows_better": "program book leads rounds most cost value"},
}
# The classes whose == the interface tells, by file, and the methods of classes.
EQUALS = {
    "papers": "Paper Denial", "program": "Function Program", "runs": "Run", "rules": "Rule Book", "leads": "Lead", "shelves": "Shelf",
    "classes": "Classes", "costs": "Weights Depth Needs Both", "rounds": "Grown", "code": "Code",
}
METHODS = {
    ("shelves", "Shelf"): {"rule": "self name", "before": "self index"},
    ("classes", "Classes"): {
        "put": "self term", "class_of": "self term", "join": "self one other why", "nodes": "self place", "kind": "self place",
        "first_term": "self place", "copy": "self",
    },
    ("code", "Code"): {"read": "text", "__str__": "self", "__eq__": "self other"},
}
ALLOWED_BUILTINS = (
    "len range enumerate zip min max sum abs sorted reversed int str bool list tuple dict set isinstance ord repr any all divmod type "
    "ValueError property staticmethod"
).split()


def nodes_of(file):
    return list(ast.walk(ast.parse(file.read_text())))


def stars_in_indexes(nodes):
    """The rows at which `*` or `**` stands in the brackets of an index, however deep, ascending."""
    rows = set()
    for node in nodes:
        if isinstance(node, ast.Subscript):
            for one in ast.walk(node.slice):
                if isinstance(one, ast.Starred) or isinstance(one, ast.keyword) and one.arg is None:
                    rows.add(one.value.lineno)
                if isinstance(one, ast.Dict) and None in one.keys:
                    rows.add(one.lineno)
    return sorted(rows)


class TestInterface(unittest.TestCase):
    def test_names_and_parameters(self):
        for module, things in INTERFACE.items():
            for key, parameters in things.items():
                thing = getattr(importlib.import_module(f"leastequal.{module}"), key)
                told = " ".join(str(one) for one in inspect.signature(thing).parameters.values())
                self.assertEqual(told, parameters, key)
                self.assertEqual(thing.__module__, f"leastequal.{module}")

    def test_classes_have_their_own_equality(self):
        for module, keys in EQUALS.items():
            for key in keys.split():
                self.assertIn("__eq__", vars(getattr(importlib.import_module(f"leastequal.{module}"), key)))

    def test_methods(self):
        for (module, key), methods in METHODS.items():
            for method, parameters in methods.items():
                made = vars(getattr(importlib.import_module(f"leastequal.{module}"), key))[method]
                made = made.__func__ if isinstance(made, staticmethod) else made
                self.assertEqual(" ".join(str(one) for one in inspect.signature(made).parameters.values()), parameters)


class TestFiles(unittest.TestCase):
    def test_the_folder(self):
        others = [path.name for path in PACKAGE.iterdir() if path not in FILES and path.name != "__pycache__"]
        self.assertEqual(others, [])
        self.assertLessEqual(len(FILES), 100)

    def test_sizes_and_signs(self):
        for file in FILES:
            lines = file.read_text().split("\n")
            self.assertLessEqual(len(lines) - 1, 399, file.name)
            for line in lines:
                self.assertLessEqual(len(line), 120, file.name)
                self.assertTrue(all(" " <= sign <= "~" for sign in line), line)

    def test_functions_are_short(self):
        for file in FILES:
            for node in nodes_of(file):
                if isinstance(node, ast.FunctionDef):
                    self.assertLessEqual(node.end_lineno - node.lineno + 1, 40, node.name)
                    self.assertTrue(all(ast.unparse(one) in ("property", "staticmethod") for one in node.decorator_list), node.name)

    def test_imports_are_of_the_package(self):
        for file in FILES:
            for node in nodes_of(file):
                self.assertNotIsInstance(node, ast.Import)
                if isinstance(node, ast.ImportFrom):
                    self.assertTrue(node.module.startswith("leastequal.") or node.module == "heapq", file.name)

    def test_names_of_builtins(self):
        builtin = set(dir(__builtins__) if not isinstance(__builtins__, dict) else __builtins__)
        for file in FILES:
            for node in nodes_of(file):
                if isinstance(node, ast.Name) and node.id in builtin:
                    self.assertIsInstance(node.ctx, ast.Load)
                    self.assertIn(node.id, ALLOWED_BUILTINS)
                if isinstance(node, ast.arg):
                    self.assertNotIn(node.arg, builtin)

    def test_statements(self):
        refused = (ast.Try, ast.With, ast.Global, ast.AsyncFunctionDef, ast.Yield, ast.GeneratorExp, ast.Set)
        for file in FILES:
            for node in nodes_of(file):
                self.assertNotIsInstance(node, refused, file.name)
                if isinstance(node, ast.Constant):
                    self.assertNotIsInstance(node.value, (float, complex))

    def test_no_star_in_an_index(self):
        for file in FILES:
            self.assertEqual(stars_in_indexes(nodes_of(file)), [], file.name)

    def test_which_stars_stand_in_an_index(self):
        refused = (
            "homes[(row[0], *parts)]", "homes[row[0], *parts]", "homes[(row[0], (1, *parts))] = 2", "del homes[(*parts,)]",
            "homes[1][(*parts,)][2]", "homes[rows[(*parts,)]]", "homes[:len([*parts])]", "homes[max(*parts)]", "homes[told(**parts)]",
            "homes[len({**parts})]", "[homes[(row[0], *parts)] for parts in rows]", "def told(parts):\n    return homes[(1, *parts)]",
        )
        for text in refused:
            self.assertEqual(stars_in_indexes(ast.walk(ast.parse(text))), [len(text.split("\n"))], text)
        allowed = (
            "homes[node]", "[*parts, homes[1]]", "(homes[1], *homes[2:])", "told(*homes[1])", "told(**homes[1])", "{**homes[1], 2: 3}",
            "first, *homes[1] = parts", "homes[2 * 3 ** k]", "nodes = [(row[0], *parts) for parts in rows]", "[*parts][0]",
        )
        for text in allowed:
            self.assertEqual(stars_in_indexes(ast.walk(ast.parse(text))), [], text)


if __name__ == "__main__":
    unittest.main()
