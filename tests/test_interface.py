"""[2], [9] to [18]: the names of the interface, their files and their arguments."""

import importlib
import inspect
import unittest

FUNCTIONS = {
    "spans": {
        "is_text": ["value"], "is_span": ["value"], "behind": ["text"], "beyond": ["text"],
        "span_of": ["ranges"], "has": ["span", "text"], "opposite": ["span"],
        "joined": ["span", "other_span"], "shared": ["span", "other_span"], "least_text": ["span"],
        "texts_in": ["span", "most"], "is_finite": ["span"],
    },
    "filters": {
        "is_filter": ["value"], "answer": ["query", "value"], "selection": ["query"],
        "alike": ["one", "other"], "parting": ["one", "other"], "within": ["one", "other"],
        "picked": ["query", "column"], "filter_of": ["lacking", "span"],
    },
    "notes": {
        "is_rule": ["value"], "is_page": ["value"], "is_note": ["rule", "value"], "note": ["rule", "page"],
        "texts_of": ["rule", "note"], "lacking_of": ["rule", "note"], "bars": ["rule", "note", "query"],
        "grants": ["rule", "note", "query"], "page_for": ["rule", "note", "query"],
    },
    "readers": {
        "lost": ["maker", "belief", "page", "query"], "loses": ["maker", "belief"],
        "least_loss": ["maker", "belief"], "tells": ["maker", "belief"], "untold": ["maker", "belief"],
    },
    "codes": {
        "is_code": ["value"], "signs": ["code", "page"], "note_signs": ["rule", "page"], "best_code": ["page"],
        "cheapest": ["rule", "column", "most"],
    },
    "words": {
        "write_filter": ["query"], "read_filter": ["words"], "write_value": ["value"], "read_value": ["words"],
        "write_rule": ["rule"], "read_rule": ["words"],
    },
}
COLUMN_METHODS = {
    "__len__": [], "__getitem__": None, "add": ["*values"], "undo": [], "close": [],
    "scan": ["wish", "counted=True"], "count": None, "begin": [], "finish": [], "twin": [],
}
# For each class its methods, with their parameters behind the first; None where these have no names.
CLASSES = {
    "wishes": {"Wish": {
        "__init__": ["query"], "__call__": ["value"], "__contains__": None, "__and__": None, "__rand__": None,
        "__or__": None, "__ror__": None, "__sub__": None, "__rsub__": None, "__invert__": [], "__eq__": None,
        "__le__": None, "__lt__": None, "__bool__": [], "__len__": [], "of_span": ["span", "lacking='open'"],
    }},
    "columns": {
        "Column": {"__init__": ["rule", "most"], **COLUMN_METHODS},
        "CappedColumn": {"__init__": ["rule", "most", "cap"], "add": ["*values"], "twin": []},
        "SortedColumn": {"__init__": ["rule", "most"], "add": ["*values"], "twin": []},
        "SortedCappedColumn": {"__init__": ["rule", "most", "cap"], "add": ["*values"], "twin": []},
    },
    "console": {"Console": {"__init__": ["rule", "most"], "execute": ["command"]}},
}
PROPERTIES = {"Wish": ["query", "span", "lacking"], "Column": ["rule", "most", "contents", "notes", "read"],
              "CappedColumn": ["cap"]}
BY_NAME_ONLY = ["lacking='open'", "counted=True", "cap"]


class TestInterface(unittest.TestCase):
    def test_each_function_is_defined_in_its_file_with_its_parameters(self):
        for file, functions in FUNCTIONS.items():
            module = importlib.import_module("pageskips." + file)
            for name, parameters in functions.items():
                with self.subTest(name=name):
                    function = getattr(module, name)
                    self.assertEqual(function.__module__, "pageskips." + file)
                    self.assertEqual(function.__name__, name)
                    told = inspect.signature(function).parameters.values()
                    self.assertEqual([part.name for part in told], parameters)
                    for part in told:
                        self.assertIs(part.kind, part.POSITIONAL_OR_KEYWORD)
                        self.assertIs(part.default, part.empty)

    def test_each_method_is_defined_in_its_class_with_its_parameters(self):
        for file, classes in CLASSES.items():
            module = importlib.import_module("pageskips." + file)
            for name, methods in classes.items():
                told = getattr(module, name)
                self.assertEqual((told.__module__, told.__name__), ("pageskips." + file, name))
                for method, parameters in methods.items():
                    with self.subTest(name=name, method=method):
                        self.check_method(vars(told)[method], parameters)

    def check_method(self, method, parameters):
        function = method.__func__ if isinstance(method, classmethod) else method
        told = list(inspect.signature(function).parameters.values())[1:]
        if parameters is None:
            self.assertEqual(len(told), 1)
            return
        self.assertEqual([str(part) for part in told], parameters)
        for part in told:
            self.assertIs(part.kind == part.KEYWORD_ONLY, str(part) in BY_NAME_ONLY)

    def test_the_properties(self):
        for classes in CLASSES.values():
            for name in classes:
                file = [file for file in CLASSES if name in CLASSES[file]][0]
                told = getattr(importlib.import_module("pageskips." + file), name)
                for attribute in PROPERTIES.get(name, []):
                    self.assertIsInstance(vars(told)[attribute], property)


if __name__ == "__main__":
    unittest.main()
