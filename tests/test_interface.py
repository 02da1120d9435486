"""[2], [9] to [14]: the names of the interface, their files and their arguments."""

import importlib
import inspect
import unittest

FUNCTIONS = {
    "spans": {
        "is_text": ["value"], "is_span": ["value"], "behind": ["text"], "beyond": ["text"],
        "span_of": ["ranges"], "has": ["span", "text"], "opposite": ["span"],
        "joined": ["span", "other_span"], "shared": ["span", "other_span"], "least_text": ["span"],
        "texts_in": ["span", "most"], "is_finite": ["span"],
    },
    "filters": {
        "is_filter": ["value"], "answer": ["query", "value"], "selection": ["query"],
        "alike": ["one", "other"], "parting": ["one", "other"], "within": ["one", "other"],
        "picked": ["query", "column"], "filter_of": ["lacking", "span"],
    },
    "notes": {
        "is_rule": ["value"], "is_page": ["value"], "is_note": ["rule", "value"], "note": ["rule", "page"],
        "texts_of": ["rule", "note"], "lacking_of": ["rule", "note"], "bars": ["rule", "note", "query"],
        "grants": ["rule", "note", "query"], "page_for": ["rule", "note", "query"],
    },
    "readers": {
        "lost": ["maker", "belief", "page", "query"], "loses": ["maker", "belief"],
        "least_loss": ["maker", "belief"], "tells": ["maker", "belief"], "untold": ["maker", "belief"],
    },
    "codes": {
        "is_code": ["value"], "signs": ["code", "page"], "note_signs": ["rule", "page"], "best_code": ["page"],
        "cheapest": ["rule", "column", "most"],
    },
}


class TestInterface(unittest.TestCase):
    def test_each_function_is_defined_in_its_file_with_its_parameters(self):
        for file, functions in FUNCTIONS.items():
            module = importlib.import_module("pageskips." + file)
            for name, parameters in functions.items():
                with self.subTest(name=name):
                    function = getattr(module, name)
                    self.assertEqual(function.__module__, "pageskips." + file)
                    self.assertEqual(function.__name__, name)
                    told = inspect.signature(function).parameters.values()
                    self.assertEqual([part.name for part in told], parameters)
                    for part in told:
                        self.assertIs(part.kind, part.POSITIONAL_OR_KEYWORD)
                        self.assertIs(part.default, part.empty)


if __name__ == "__main__":
    unittest.main()
