"""The interface [17]: each name stands in its file, with its parameters."""

import ast
import doctest
import importlib
import inspect
import pathlib
import unittest

PACKAGE = pathlib.Path(__file__).resolve().parent.parent / "leafway"

INTERFACE = {
    "errors": {"NoPlace": "place", "BadText": "line", "CanNot": "", "TooMuch": "", "Unfit": ""},
    "sha": {"is_octets": "thing", "sha": "numbers", "hex_text": "numbers", "hex_numbers": "text",
            "codes_of": "text"},
    "seals": {"is_entry": "thing", "is_sealer": "thing", "is_seal": "sealer thing", "is_matter": "sealer thing",
              "seal_of": "sealer matter"},
    "roots": {"crown": "size", "root": "sealer log", "head_of": "sealer log", "heads_along": "sealer log",
              "is_head": "sealer thing", "stretches": "size", "seal_of_stretch": "sealer log stretch",
              "tops_of": "sealer log", "is_tops": "sealer thing", "grown": "sealer tops entry",
              "head_by": "sealer tops"},
    "ways": {"nodes_above": "size place", "neighbours": "size place", "way_length": "size place", "lengths": "size",
             "shortest": "size", "way": "sealer log size place", "root_by": "sealer size place entry way",
             "is_way": "sealer head place entry thing", "is_shown": "sealer thing",
             "clash_of": "sealer head place one other", "stays": "size bigger place",
             "shows": "size place stretches", "unlike_logs": "size place stretches"},
    "rises": {"rise_stretches": "old size", "rise_length": "old size", "rise": "sealer log old size",
              "roots_by_rise": "sealer old size way", "is_rise": "sealer thing", "joined": "sealer near far"},
    "many": {"many_stretches": "size places", "many_length": "size places", "many": "sealer log size places",
             "root_by_many": "sealer size entries way", "is_many": "sealer thing", "is_all": "sealer thing",
             "thinned": "sealer told places", "united": "sealer one other"},
    "known": {"is_taken": "sealer thing", "tells": "sealer told", "opens": "sealer told", "rising": "things head",
              "put_together": "sealer head things", "is_clash": "sealer thing", "is_true": "sealer told log",
              "fills": "sealer known log", "needed": "known"},
    "people": {"is_event": "thing", "holds": "sealer history person", "heads_told": "things",
               "parting": "sealer things", "is_parting": "sealer thing", "can_tell": "sealer things",
               "excuse": "sealer things", "is_excuse": "sealer things thing", "first_told": "sealer history",
               "tellers": "sealer history", "asks": "things"},
    "lies": {"is_change": "thing", "changed": "log change", "first_place": "log other",
             "first_head": "sealer log other", "keeps": "sealer heads log", "missed": "sealer log change sizes",
             "search": "sealer log other", "is_lie_paper": "sealer thing", "lie_paper": "sealer log other",
             "lie_clash": "sealer paper log"},
    "texts": {"sealer_text": "sealer", "seal_text": "sealer seal", "head_text": "sealer head", "log_text": "log",
              "told_text": "sealer things", "known_text": "sealer known", "sealer_read": "text",
              "seal_read": "sealer text", "head_read": "sealer text", "log_read": "text", "told_read": "sealer text",
              "known_read": "sealer text"},
    "files": {"file_text": "sealer log", "read_file": "sealer text", "rows_in": "sealer text", "mended": "sealer text",
              "row_heads": "sealer text", "grown_file": "sealer text entry", "left_of": "sealer log many"},
    "judge": {"is_claim": "thing", "is_so": "claim", "paper": "claim", "is_paper_for": "claim thing",
              "is_paper_against": "claim thing", "verdicts": "claims things", "comes_of": "claim claims",
              "first_false": "claims"},
    "shell": {"shell": "text", "is_request": "thing"},
}


class Interface(unittest.TestCase):

    def test_each_name_has_its_parameters(self):
        for file, names in INTERFACE.items():
            module = importlib.import_module("leafway." + file)
            for name, parameters in names.items():
                signature = inspect.signature(getattr(module, name))
                self.assertEqual(list(signature.parameters), parameters.split(), name)
                for one in signature.parameters.values():
                    self.assertIs(one.default, inspect.Parameter.empty)
                    self.assertIs(one.kind, inspect.Parameter.POSITIONAL_OR_KEYWORD)

    def test_each_name_is_defined_in_its_file(self):
        for file, names in INTERFACE.items():
            tree = ast.parse((PACKAGE / (file + ".py")).read_text())
            defined = [one.name for one in tree.body if isinstance(one, (ast.FunctionDef, ast.ClassDef))]
            for name in names:
                self.assertEqual(defined.count(name), 1, name)

    def test_examples_of_the_readme(self):
        failed, tried = doctest.testfile(str(PACKAGE.parent / "README.md"), module_relative=False)
        self.assertEqual(failed, 0)
        self.assertGreater(tried, 0)
