"""The form of the code: what of shared/LANGUAGE.md is easily counted."""

import ast
import builtins
import pathlib
import unittest

import standwaves

FOLDER = pathlib.Path(standwaves.__file__).parent
LIBRARY = {"heapq", "math", "itertools"}
NOT_ALLOWED = (ast.Global, ast.AsyncFunctionDef, ast.Await, ast.Import, ast.Set, ast.Div, ast.AnnAssign)
CHANGES = {"append", "extend", "insert", "pop", "remove", "clear", "update", "setdefault", "add", "discard", "sort"}


def same_names(function):
    """Returns the dict from each name that is assigned to another one to the set of names for one thing."""
    groups = {}
    for node in ast.walk(function):
        if isinstance(node, ast.Assign) and isinstance(node.value, ast.Name):
            for target in node.targets:
                if isinstance(target, ast.Name):
                    group = groups.get(target.id, {target.id}) | groups.get(node.value.id, {node.value.id})
                    groups.update(dict.fromkeys(group, group))
    return groups


def changed_names(loop):
    """Returns the names whose things a loop changes."""
    changed = []
    for node in ast.walk(loop):
        if isinstance(node, ast.Call) and isinstance(node.func, ast.Attribute) and node.func.attr in CHANGES:
            changed.append(node.func.value)
        elif isinstance(node, ast.Subscript) and not isinstance(node.ctx, ast.Load):
            changed.append(node.value)
        elif isinstance(node, ast.AugAssign):
            changed.append(node.target)
    return {node.id for node in changed if isinstance(node, ast.Name)}


def changed_while_walked(function):
    """Returns the names that a loop of a function walks straight and changes, by any name."""
    groups = same_names(function)
    names = []
    for loop in ast.walk(function):
        if isinstance(loop, ast.For) and isinstance(loop.iter, ast.Name):
            if groups.get(loop.iter.id, {loop.iter.id}) & changed_names(loop):
                names.append(loop.iter.id)
    return names


class FormTest(unittest.TestCase):

    def files(self):
        paths = sorted(FOLDER.glob("*.py"))
        self.assertIn(FOLDER / "rules.py", paths)
        return [(path.name, path.read_text(), ast.parse(path.read_text())) for path in paths]

    def test_the_folder_holds_nothing_else(self):
        others = [path.name for path in FOLDER.iterdir() if path.suffix != ".py"]
        self.assertIn(others, [[], ["__pycache__"]])

    def test_sizes(self):
        for name, text, tree in self.files():
            lines = text.split("\n")
            self.assertLess(len(lines), 400, name)
            self.assertLessEqual(max(map(len, lines)), 120, name)
            for node in ast.walk(tree):
                if isinstance(node, ast.FunctionDef):
                    self.assertLessEqual(node.end_lineno - node.lineno + 1, 40, node.name)

    def test_characters(self):
        for name, text, tree in self.files():
            self.assertTrue(all(sign == "\n" or " " <= sign <= "~" for sign in text), name)
            for node in ast.walk(tree):
                if isinstance(node, ast.Constant) and isinstance(node.value, str):
                    self.assertNotIn("%", node.value, name)
                self.assertFalse(isinstance(node, ast.Constant) and isinstance(node.value, float), name)

    def test_imports(self):
        for name, _, tree in self.files():
            for node in ast.walk(tree):
                if isinstance(node, ast.ImportFrom):
                    self.assertEqual(node.level, 0, name)
                    self.assertTrue(node.module in LIBRARY or node.module.startswith("standwaves."), name)
                    for alias in node.names:
                        self.assertIsNone(alias.asname)
                        if node.module not in LIBRARY:
                            source = (FOLDER / (node.module.split(".")[1] + ".py")).read_text()
                            self.assertTrue(f"def {alias.name}(" in source
                                            or f"class {alias.name}" in source, alias.name)

    def test_statements(self):
        for name, _, tree in self.files():
            for node in ast.walk(tree):
                self.assertNotIsInstance(node, NOT_ALLOWED, name)

    def test_no_loop_changes_what_it_walks(self):
        for name, _, tree in self.files():
            for node in ast.walk(tree):
                if isinstance(node, ast.FunctionDef):
                    self.assertEqual(changed_while_walked(node), [], name)

    def test_a_loop_that_changes_what_it_walks_is_found(self):
        body = "    for row in {walked}:\n        {change}\n    rows = longer\n"
        for walked, change, found in [
                ("rows", "longer.append(row)", ["rows"]), ("rows", "rows[0] = row", ["rows"]),
                ("rows", "del longer[0]", ["rows"]), ("longer", "rows += row", ["longer"]),
                ("list(rows)", "longer.append(row)", []), ("rows", "others.append(row)", [])]:
            text = "def f(rows, longer, others):\n" + body.format(walked=walked, change=change)
            self.assertEqual(changed_while_walked(ast.parse(text)), found, text)

    def test_no_name_of_a_builtin_is_given_another_meaning(self):
        known = {name for name in dir(builtins) if not name.startswith("_")}
        for name, _, tree in self.files():
            for node in ast.walk(tree):
                if isinstance(node, ast.Name) and isinstance(node.ctx, ast.Store):
                    self.assertNotIn(node.id, known, name)
                if isinstance(node, ast.arg):
                    self.assertNotIn(node.arg, known, name)
                if isinstance(node, (ast.FunctionDef, ast.ClassDef)):
                    self.assertNotIn(node.name, known, name)


if __name__ == "__main__":
    unittest.main()
