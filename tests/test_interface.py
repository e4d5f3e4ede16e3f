"""The section "The interface" of the document over the whole program: names, parameters, defaults, and their files."""

import ast
import importlib
import inspect
import pathlib
import unittest

from fieldberth import errors
from fieldberth.layouts import Layout, struct
from fieldberth.memories import Memory
from fieldberth.views import View

PACKAGE = pathlib.Path(__file__).resolve().parent.parent / "fieldberth"
DECLARED = "(members, *, convention='sysv', pack=None, align=None, ends='little')"

FUNCTIONS = {
    "layouts": {"struct": DECLARED, "union": DECLARED},
    "programs": {"is_program": "(layout, program)", "run": "(layout, program, octets)"},
    "effects": {"effect": "(layout, program)", "followed": "(first, second)", "same_effect": "(layout, one, two)",
                "lost": "(layout, program)", "mate": "(layout, program, octets)", "turned_back": "(layout, program)"},
    "wishes": {"fits": "(told, wish)", "wish_of": "(one, other)", "readable": "(one, other)",
               "least_program": "(layout, wish, most)"},
    "facts": {"has_facts": "(layout, octets, facts)", "possible": "(layout, facts)",
              "keeps": "(layout, before, program, after)", "follows": "(layout, before, program)",
              "needed": "(layout, program, after)"},
    "orders": {"least_order": DECLARED},
    "writes": {"least_writes": "(layout, old, new)"},
}
CLASSES = {
    "layouts": {"Layout": {"paths": "(self)", "berth": "(self, path)", "octet_at": "(self, path)",
                           "kind_at": "(self, path)", "holes": "(self)"}},
    "memories": {"Memory": {"__init__": "(self, octets)", "__len__": "(self)", "octets": "(self)",
                            "move": "(self, to, source, many)"}},
    "views": {"View": {"__init__": "(self, memory, layout, address=0)", "read": "(self, path)",
                       "write": "(self, path, value)", "part": "(self, path)", "whole": "(self, path=())",
                       "copy_from": "(self, other)"}},
}
PROPERTIES = {Layout: "size alignment convention ends", View: "memory layout address size"}
ERRORS = {"BadKind": "kind", "BadOption": "name", "BadMember": "place", "BadBits": "place", "BadName": "name",
          "BadPath": "path", "BadOctet": "value", "BadAddress": "octet", "BadValue": "value", "BadSize": "many",
          "BadProgram": "place", "BadWish": "bit", "BadFact": "fact"}


def defined_in(stem):
    """The names of what a file defines itself, and for each class the names of its methods."""
    body = ast.parse((PACKAGE / (stem + ".py")).read_text(encoding="ascii")).body
    functions = {node.name for node in body if isinstance(node, ast.FunctionDef)}
    classes = {node.name: {part.name for part in node.body if isinstance(part, ast.FunctionDef)}
               for node in body if isinstance(node, ast.ClassDef)}
    return functions, classes


class InterfaceTest(unittest.TestCase):
    def test_functions(self):
        for stem, table in FUNCTIONS.items():
            module = importlib.import_module("fieldberth." + stem)
            for name, wanted in table.items():
                self.assertIn(name, defined_in(stem)[0])
                self.assertEqual(str(inspect.signature(getattr(module, name))), wanted, name)

    def test_classes(self):
        for stem, table in CLASSES.items():
            module = importlib.import_module("fieldberth." + stem)
            for name, methods in table.items():
                for method, wanted in methods.items():
                    self.assertIn(method, defined_in(stem)[1][name])
                    self.assertEqual(str(inspect.signature(getattr(getattr(module, name), method))), wanted, method)

    def test_properties(self):
        for told, names in PROPERTIES.items():
            for name in names.split():
                self.assertIsInstance(told.__dict__[name], property)

    def test_errors(self):
        self.assertEqual(errors.BerthError.__bases__, (ValueError,))
        functions, classes = defined_in("errors")
        self.assertEqual(set(classes), {"BerthError", *ERRORS})
        for name, field in ERRORS.items():
            made = getattr(errors, name)
            self.assertEqual(made.__bases__, (errors.BerthError,))
            self.assertIn("__init__", classes[name])
            self.assertEqual(str(inspect.signature(made)), "(" + field + ")")
            for thing in (None, [1], {}, "x", struct([])):
                self.assertIs(getattr(made(thing), field), thing)
                self.assertIs(getattr(made(**{field: thing}), field), thing)

    def test_objects_are_equal_only_to_themselves(self):
        memory = Memory([1, 2])
        layout = struct([])
        for make in (lambda: Memory([1, 2]), lambda: struct([]), lambda: View(memory, layout)):
            one, two = make(), make()
            self.assertTrue(one == one)
            self.assertFalse(one == two)
            self.assertTrue(one != two)


if __name__ == "__main__":
    unittest.main()
