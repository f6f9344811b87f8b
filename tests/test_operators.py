"""The rules for operators, properties and the like: what they, and what they call, may change and call."""

import ast
import unittest

from test_language import ANSWERING, called, decorators, functions, nodes

CHANGING = ("append", "clear", "extend", "insert", "pop", "remove", "reverse", "setdefault", "sort", "update")
# Arithmetic and comparisons, and what has to change as little as they do.
QUIET = ANSWERING + [f"__{word}__" for word in "neg pos invert abs bool contains getitem str repr len".split()]


def initials_of(word):
    """The `__init__` of a class, or of those above it."""
    for _, node in nodes(ast.ClassDef):
        if node.name == word:
            own = [part for part in node.body if getattr(part, "name", None) == "__init__"]
            return own or [part for base in node.bases for part in initials_of(base.id)]
    return []


def reached_from_operators():
    """The operators and properties, and all that they call, directly or not."""
    by_names = {}
    for _, node in functions():
        by_names.setdefault(node.name, []).append(node)
    classes = {node.name for _, node in nodes(ast.ClassDef)}
    waiting = [node for _, node in functions() if node.name in QUIET or decorators(node) == ["property"]]
    found = []
    while waiting:
        function = waiting.pop()
        if function in found:
            continue
        found.append(function)
        for node in ast.walk(function):
            if isinstance(node, ast.Call):
                word = called(node)
                waiting += initials_of(word) if word in classes else by_names.get(word, [])
    return found


def made_in(function):
    """The names that are assigned nothing but lists, dicts and objects that a function makes."""
    told = {}
    for node in ast.walk(function):
        if isinstance(node, ast.Assign) and isinstance(node.targets[0], ast.Name):
            told.setdefault(node.targets[0].id, []).append(node.value)
    return [name for name, values in told.items() if all(is_made(value) for value in values)]


def is_made(value):
    """Whether a value is a new list, dict or object."""
    if isinstance(value, ast.Call):
        return called(value) in ("list", "dict", "sorted", "cls") or bool(initials_of(called(value)))
    return isinstance(value, (ast.List, ast.Dict, ast.ListComp, ast.DictComp))


def changed_in(function):
    """The nodes whose items or attributes a function changes."""
    found = []
    for node in ast.walk(function):
        if isinstance(node, (ast.Subscript, ast.Attribute)) and isinstance(node.ctx, (ast.Store, ast.Del)):
            found.append(node.value)
        if isinstance(node, ast.Call) and isinstance(node.func, ast.Attribute) and node.func.attr in CHANGING:
            found.append(node.func.value)
    return found


class Operators(unittest.TestCase):
    def test_they_change_only_what_they_made(self):
        for function in reached_from_operators():
            made = made_in(function) + (["self"] if function.name == "__init__" else [])
            for node in changed_in(function):
                self.assertIsInstance(node, ast.Name, (function.name, node.lineno))
                self.assertIn(node.id, made, (function.name, node.lineno))

    def test_they_call_nothing_that_they_are_handed(self):
        for function in reached_from_operators():
            handed = [one.arg for one in function.args.args + function.args.kwonlyargs if one.arg != "cls"]
            for node in ast.walk(function):
                if isinstance(node, ast.Call):
                    self.assertNotIn(getattr(node.func, "id", None), handed, (function.name, node.lineno))
                    self.assertIsInstance(node.func, (ast.Name, ast.Attribute), (function.name, node.lineno))


if __name__ == "__main__":
    unittest.main()
