"""What DOC.md's interface lists stands in the file under which it stands there, with its arguments."""

import ast
import importlib
import pathlib
import unittest

PACKAGE = pathlib.Path(__file__).resolve().parent.parent / "jarvisits"

FUNCTIONS = {
    "addresses": {
        "is_host": ["thing"],
        "is_path": ["thing"],
        "is_address": ["thing"],
        "is_within": ["host", "other"],
        "is_below": ["path", "other"],
    },
    "sites": {
        "need_site": ["thing"],
        "keys_of": ["site"],
        "key_of": ["site", "page", "number"],
        "effects": ["site", "page"],
    },
    "jars": {
        "need_jar": ["thing"],
        "visited": ["jar", "site", "page"],
        "behind": ["site", "row"],
        "sent": ["jar", "address"],
        "read": ["jar", "address", "name"],
    },
    "kinds": {
        "kind_of": ["site", "address"],
        "kinds": ["site"],
    },
    "rows": {
        "jars": ["site"],
        "row_to": ["site", "jar"],
    },
    "wishes": {
        "need_wish": ["site", "thing"],
        "row_for": ["site", "wish"],
        "bar": ["site", "wish"],
        "is_bar": ["site", "wish", "thing"],
    },
    "signing": {
        "doubled": ["site", "name"],
        "pairs_kept": ["site", "name"],
        "signs_out": ["site", "page", "name"],
        "stays": ["site", "page", "name"],
        "lacking": ["site", "page", "name"],
        "beyond": ["site", "page", "name"],
        "mended": ["site", "page", "name"],
    },
    "readings": {
        "readings": ["site", "page", "address", "name"],
        "sure": ["site", "page", "address"],
    },
    "likeness": {
        "alike": ["one", "other"],
        "parted": ["one", "other"],
        "needless": ["site"],
        "lean": ["site"],
    },
    "texts": {
        "write_text": ["write"],
        "address_text": ["address"],
        "site_text": ["site"],
        "read_site": ["string"],
    },
    "browser": {
        "under": ["manager", "deed"],
    },
}
CLASSES = {
    "errors": {
        "JarError": None,
        "BadSite": ["self", "place"],
        "BadText": ["self", "line", "place"],
        "BadAddress": ["self", "given"],
        "BadRow": ["self", "given"],
        "BadWish": ["self", "place"],
        "BadName": ["self", "given"],
        "BadPage": ["self", "given"],
        "BadJar": ["self", "place"],
        "TooMany": ["self", "most"],
        "BadQuestion": None,
    },
}
METHODS = {
    ("browser", "Browser"): {
        "__init__": ["self", "site"],
        "visit": ["self", "page"],
        "site": ["self"],
        "jar": ["self"],
        "row": ["self"],
        "sent": ["self", "address"],
        "read": ["self", "address", "name"],
        "undo": ["self"],
        "clear": ["self"],
        "__len__": ["self"],
        "__contains__": ["self", "key"],
        "trial": ["self"],
        "__eq__": ["self", "other"],
    },
    ("desk", "Desk"): {
        "__init__": ["self", "text"],
        "browser": ["self"],
        "say": ["self", "line"],
    },
}
PROPERTIES = {"site", "jar", "row", "browser"}
VALUES = {"sites": {"MOST_PAGES": 5, "MOST_WRITES": 5}}


def parsed(module):
    return ast.parse((PACKAGE / f"{module}.py").read_text())


def defined(module, kind):
    """A dict from the names to the nodes of what a file defines at its top."""
    return {node.name: node for node in parsed(module).body if isinstance(node, kind)}


def arguments(node):
    """The names of the arguments of a function that takes nothing but plain ones without defaults."""
    told = node.args
    plain = not (told.vararg or told.kwarg or told.kwonlyargs or told.posonlyargs or told.defaults)
    return [argument.arg for argument in told.args] if plain else None


class Interface(unittest.TestCase):
    def test_functions(self):
        for module, listed in FUNCTIONS.items():
            found = defined(module, ast.FunctionDef)
            for name, wanted in listed.items():
                self.assertIn(name, found)
                self.assertEqual(arguments(found[name]), wanted, name)
                self.assertEqual(getattr(importlib.import_module(f"jarvisits.{module}"), name).__name__, name)

    def test_classes(self):
        for module, listed in CLASSES.items():
            found = defined(module, ast.ClassDef)
            self.assertEqual(sorted(found), sorted(listed))
            for name, wanted in listed.items():
                made = [node for node in found[name].body if isinstance(node, ast.FunctionDef)]
                self.assertEqual([node.name for node in made], [] if wanted is None else ["__init__"], name)
                for node in made:
                    self.assertEqual(arguments(node), wanted, name)

    def test_methods(self):
        for (module, owner), listed in METHODS.items():
            body = defined(module, ast.ClassDef)[owner].body
            found = {node.name: node for node in body if isinstance(node, ast.FunctionDef)}
            self.assertEqual(getattr(importlib.import_module(f"jarvisits.{module}"), owner).__name__, owner)
            for name, wanted in listed.items():
                self.assertEqual(arguments(found[name]), wanted, name)
                decorators = [ast.unparse(node) for node in found[name].decorator_list]
                self.assertEqual(decorators, ["property"] if name in PROPERTIES else [], name)

    def test_values(self):
        for module, listed in VALUES.items():
            for name, wanted in listed.items():
                self.assertEqual(getattr(importlib.import_module(f"jarvisits.{module}"), name), wanted)
