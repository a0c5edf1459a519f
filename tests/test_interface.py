"""The paragraph behind "The interface": names, arguments and files, as the document lists them."""

import ast
import importlib
import pathlib
import unittest

import towerwise

FOLDER = pathlib.Path(towerwise.__file__).parent

FUNCTIONS = {
    "words": {"is_whole": "thing", "is_among": "thing least most", "is_name": "thing", "number_in": "word",
              "words_of": "row"},
    "fractions": {"is_fraction": "thing", "fraction": "above below", "sum_of": "one other", "product_of": "one other",
                  "difference_of": "one other", "quotient_of": "one other", "is_less": "one other", "is_great": "one"},
    "kinds": {"is_kind": "thing", "need_kind": "thing", "is_finite": "kind", "many_worths": "kind"},
    "worths": {"is_worth": "kind thing", "need_worth": "kind thing", "worth_at": "kind number",
               "place_of": "kind worth"},
    "exact": {"exact_deed": "kind deed one other", "exact_order": "kind one other"},
    "roots": {"root_deed": "kind deed one other", "root_sign": "kind worth", "root_order": "kind one other",
              "turned_root": "kind worth", "root_norm": "kind worth"},
    "backs": {"is_prime": "number", "back_of": "kind worth", "units_of": "kind", "parted_noughts": "kind"},
    "figures": {"rounded": "figures number", "value_of": "worth", "is_tie": "figures number"},
    "about": {"about_deed": "kind deed one other", "about_order": "kind one other"},
    "sure": {"sure_deed": "kind deed one other", "sure_like": "kind one other", "sure_order": "kind one other",
             "root_bounds": "number places", "hull_of": "kind worths", "is_within": "kind one other"},
    "own": {"nought_of": "kind", "one_of": "kind", "own_deed": "kind deed one other", "is_group": "kind",
            "is_even": "kind"},
    "deeds": {"has_deed": "kind deed", "deed_done": "kind deed one other"},
    "towers": {"is_tower": "thing", "need_tower": "thing", "steps_from": "tower number", "with_kind": "tower kind",
               "with_step": "tower step"},
    "going": {"is_way": "tower thing", "up_step": "tower one other worth", "gone_up": "tower way worth"},
    "above": {"kinds_above": "tower number", "all_ways": "tower one other", "first_way": "tower one other",
              "candidates_of": "tower deed one other", "least_kind": "tower deed one other",
              "least_above": "tower one other"},
    "cards": {"card_of": "tower way", "card_of_step": "tower one other", "card_behind": "card other",
              "by_card": "card worth"},
    "differ": {"differ_at": "tower one other", "uneven_ways": "tower"},
    "cardcheck": {"even_paper": "tower", "check_even": "tower paper"},
    "mixed": {"is_mixed": "tower thing", "need_mixed": "tower thing", "mixed_deed": "tower deed one other",
              "all_answers": "tower deed one other"},
    "likeness": {"keeps_worths": "tower way", "bounds_at": "tower way worth", "likeness_of": "tower one other"},
    "order": {"order_of": "tower one other", "in_order": "tower numbers"},
    "twins": {"going_back": "tower way worth", "twins_of": "tower number", "plainest_twin": "tower number"},
    "programs": {"is_program": "tower thing", "need_program": "tower thing", "names_used": "program place"},
    "judged": {"kinds_judged": "tower program", "kind_of": "tower program place"},
    "judgepaper": {"judge_paper": "tower program"},
    "judgecheck": {"check_judged": "tower program kinds paper"},
    "runs": {"run_of": "tower program numbers", "run_row": "tower program numbers place"},
    "terms": {"is_term": "thing", "is_equation": "thing", "need_term": "thing", "names_in": "term",
              "number_at": "kind number", "lacks_term": "kind term", "term_at": "kind term worths"},
    "polys": {"poly_of": "term"},
    "verdicts": {"verdict_of": "kind equation", "reach_of": "tower equation"},
    "writing": {"kind_text": "kind", "worth_text": "kind worth", "tower_text": "tower",
                "program_text": "tower program"},
    "reading": {"read_kind": "text", "read_tower": "text", "read_worth": "kind text", "read_program": "tower text"},
}
# Each class with its methods, by its file.
CLASSES = {
    "house": ("House", {"__init__": "tower", "kind": "kind", "step": "step", "tower": "", "name": "name number",
                        "names": "", "number": "name", "deed": "deed one other", "likeness": "one other",
                        "order": "one other", "looked": "", "copied": ""}),
    "desk": ("Desk", {"__init__": "", "said": "line"}),
}
# Each error class, and its fields; those without are made of a text.
ERRORS = {
    "TowerError": "", "BadKind": "", "BadWorth": "", "BadTower": "place", "BadWay": "", "BadNumber": "", "BadName": "",
    "BadTerm": "", "BadProgram": "row", "BadPaper": "place", "BadText": "line word", "BadLine": "", "NoDeed": "",
    "NoKind": "", "TwoKinds": "one other", "NoOrder": "", "ByNought": "", "Lacking": "", "TooGreat": "",
}


def parsed(name):
    """Parse a file of the package."""
    return ast.parse((FOLDER / (name + ".py")).read_text(encoding="utf-8"))


def arguments(function):
    """List the names that a function is passed, none of them by a star."""
    told = function.args
    assert not told.vararg and not told.kwarg and not told.kwonlyargs
    return [argument.arg for argument in told.posonlyargs + told.args]


class Interface(unittest.TestCase):
    def test_functions_stand_in_their_files_with_their_arguments(self):
        for file, wanted in FUNCTIONS.items():
            defined = {node.name: arguments(node) for node in parsed(file).body if isinstance(node, ast.FunctionDef)}
            for name, words in wanted.items():
                with self.subTest(file=file, name=name):
                    self.assertEqual(defined.get(name), words.split())
                    self.assertTrue(callable(getattr(importlib.import_module("towerwise." + file), name)))

    def test_classes_stand_in_their_files_with_their_methods(self):
        for file, (name, wanted) in CLASSES.items():
            made = [node for node in parsed(file).body if isinstance(node, ast.ClassDef) and node.name == name]
            defined = {node.name: arguments(node) for node in made[0].body if isinstance(node, ast.FunctionDef)}
            for method, words in wanted.items():
                with self.subTest(file=file, method=method):
                    self.assertEqual(defined.get(method), ["self"] + words.split())

    def test_error_classes_stand_in_their_file_with_their_fields(self):
        defined = {node.name: node for node in parsed("errors").body if isinstance(node, ast.ClassDef)}
        for name, words in ERRORS.items():
            with self.subTest(name):
                made = [arguments(node) for node in defined[name].body
                        if isinstance(node, ast.FunctionDef) and node.name == "__init__"]
                self.assertEqual(made, [["self"] + words.split()] if words else [])
