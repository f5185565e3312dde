import ast
import importlib
import inspect
import pathlib
import unittest

INTERFACE = {
    "errors": {
        "ThingError": ("reason",),
        "WitnessError": ("reason",),
        "NotebookError": ("reason",),
        "ServiceError": ("reason",),
        "PaperError": ("step", "reason"),
        "TextError": ("line", "reason"),
        "ChainError": ("link", "reason"),
        "JournalError": ("deed", "reason"),
    },
    "digests": {
        "Mixing": ("bound", "factor"),
        "digest": ("mixing", "row"),
        "is_clash": ("mixing", "one", "two"),
    },
    "things": {
        "is_thing": ("row",),
        "kind_of": ("row",),
        "beacon": ("hour", "value"),
        "document": ("cites", "body"),
        "renewal": ("digest",),
        "head": ("service", "number", "hour", "count", "root", "backs"),
        "back_rounds": ("number",),
        "way_back": ("start", "end"),
    },
    "trees": {
        "root_of": ("mixing", "entries"),
        "way_of": ("mixing", "entries", "index"),
        "turns": ("count", "index"),
        "climb": ("mixing", "count", "index", "entry", "way"),
        "clash_of_ways": ("mixing", "count", "index", "one", "two"),
        "clash_of_entries": ("mixing", "one", "two"),
    },
    "links": {
        "held_at": ("mixing", "row", "place"),
        "holds": ("mixing", "row", "place", "digest"),
        "is_link": ("mixing", "before", "row", "place"),
    },
    "papers": {
        "Paper": ("first", "steps"),
        "check": ("mixing", "paper"),
        "is_accepted": ("mixing", "paper"),
        "rows_of": ("paper",),
        "joined": ("one", "two"),
        "paper_row": ("paper",),
    },
    "written": {
        "written": ("paper",),
        "paper_of": ("text",),
    },
    "libraries": {
        "Library": ("mixing",),
    },
    "traces": {
        "trace": ("library", "paper"),
    },
    "quarrels": {
        "evidence": ("mixing", "one", "two"),
    },
    "witnesses": {
        "Witness": ("mixing", "slack"),
    },
    "judges": {
        "confirmed": ("books", "needed", "service", "number", "digest"),
        "both": ("books", "service", "number", "one", "two"),
        "is_orderly": ("book",),
    },
    "notebooks": {
        "Notebook": ("mixing",),
        "window": ("notebook", "row", "papers"),
        "foretold": ("notebook", "row", "papers"),
    },
    "renewals": {
        "chain_row": ("chain",),
        "standing": ("notebooks", "breaks", "chain", "now"),
    },
    "services": {
        "Service": ("name", "mixing"),
    },
    "journals": {
        "mended": ("name", "mixing", "journal"),
    },
}
METHODS = {
    ("libraries", "Library"): {
        "put": ("row", "entries"),
        "row_of": ("digest",),
        "entries_of": ("digest",),
        "rows": (),
        "gaps": (),
        "is_closed": (),
        "path": ("start", "end"),
    },
    ("witnesses", "Witness"): {
        "sign": ("row", "paper", "hour"),
        "book": (),
        "last": ("service",),
    },
    ("notebooks", "Notebook"): {
        "note": ("row",),
        "see": ("row", "hour"),
        "seen": ("row",),
    },
    ("services", "Service"): {
        "enter": ("digest",),
        "close": ("hour",),
        "rounds": (),
        "head": ("number",),
        "entries": ("number",),
        "stamp": ("row", "number", "index"),
        "back": ("start", "end"),
        "journal": (),
    },
}
# What ../shared/LANGUAGE.md lets a file of the package import beside the package itself.
ALLOWED = ("__future__", "collections", "heapq", "itertools", "math")
PACKAGE = pathlib.Path(__file__).resolve().parent.parent / "sealround"


class InterfaceTest(unittest.TestCase):
    def test_each_name_has_its_arguments(self):
        for module, names in INTERFACE.items():
            for name, arguments in names.items():
                with self.subTest(module=module, name=name):
                    made = getattr(importlib.import_module(f"sealround.{module}"), name)
                    self.assertEqual(tuple(inspect.signature(made).parameters), arguments)

    def test_each_name_is_defined_in_its_file(self):
        for module, names in INTERFACE.items():
            tree = ast.parse((PACKAGE / f"{module}.py").read_text("utf-8"))
            kinds = (ast.FunctionDef, ast.ClassDef)
            defined = [node.name for node in tree.body if isinstance(node, kinds)]
            for name in names:
                with self.subTest(module=module, name=name):
                    self.assertEqual(defined.count(name), 1)

    def test_each_method_has_its_arguments(self):
        for (module, name), methods in METHODS.items():
            made = getattr(importlib.import_module(f"sealround.{module}"), name)
            for method, arguments in methods.items():
                with self.subTest(name=name, method=method):
                    found = tuple(inspect.signature(getattr(made, method)).parameters)
                    self.assertEqual(found, ("self", *arguments))

    def test_each_method_is_defined_in_its_class(self):
        for (module, name), methods in METHODS.items():
            made = getattr(importlib.import_module(f"sealround.{module}"), name)
            for method in methods:
                with self.subTest(name=name, method=method):
                    self.assertIn(method, vars(made))


class NothingOutsideTest(unittest.TestCase):
    def test_the_package_imports_no_outside_package(self):
        for file in sorted(PACKAGE.rglob("*.py")):
            for node in ast.walk(ast.parse(file.read_text("utf-8"))):
                with self.subTest(file=file.name):
                    self.assertNotIsInstance(node, ast.Import)
                    if isinstance(node, ast.ImportFrom):
                        inside = node.module.startswith("sealround.")
                        self.assertTrue(inside or node.module in ALLOWED, node.module)


if __name__ == "__main__":
    unittest.main()
