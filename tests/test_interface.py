"""The interface [17]: each name stands in its file, with its parameters."""

import ast
import doctest
import importlib
import inspect
import pathlib
import unittest

PACKAGE = pathlib.Path(__file__).resolve().parent.parent / "leafway"

INTERFACE = {
    "errors": {"NoPlace": "place", "BadText": "line", "CanNot": "", "TooMuch": "", "Unfit": ""},
    "sha": {"is_octets": "thing", "sha": "numbers", "hex_text": "numbers", "hex_numbers": "text",
            "codes_of": "text"},
    "seals": {"is_entry": "thing", "is_sealer": "thing", "is_seal": "sealer thing", "is_matter": "sealer thing",
              "seal_of": "sealer matter"},
}


class Interface(unittest.TestCase):

    def test_each_name_has_its_parameters(self):
        for file, names in INTERFACE.items():
            module = importlib.import_module("leafway." + file)
            for name, parameters in names.items():
                signature = inspect.signature(getattr(module, name))
                self.assertEqual(list(signature.parameters), parameters.split(), name)
                for one in signature.parameters.values():
                    self.assertIs(one.default, inspect.Parameter.empty)
                    self.assertIs(one.kind, inspect.Parameter.POSITIONAL_OR_KEYWORD)

    def test_each_name_is_defined_in_its_file(self):
        for file, names in INTERFACE.items():
            tree = ast.parse((PACKAGE / (file + ".py")).read_text())
            defined = [one.name for one in tree.body if isinstance(one, (ast.FunctionDef, ast.ClassDef))]
            for name in names:
                self.assertEqual(defined.count(name), 1, name)

    def test_examples_of_the_readme(self):
        failed, tried = doctest.testfile(str(PACKAGE.parent / "README.md"), module_relative=False)
        self.assertEqual(failed, 0)
        self.assertGreater(tried, 0)
