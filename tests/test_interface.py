"""The interface: each name stands in its file, with its parameters in their order."""

import importlib
import inspect
import unittest

FUNCTIONS = {
    "webs": {
        "need_web": ["web"], "led_to": ["web", "way", "world"], "web_turned": ["web"],
        "kinds_changed": ["web", "kinds"],
    },
    "sayings": {
        "need_saying": ["saying"], "words_in": ["saying"], "deep_in": ["saying"],
        "letters_in": ["saying"], "need_marking": ["web", "marking"],
        "holding": ["web", "marking", "saying"], "holds": ["web", "marking", "saying", "world"],
        "put_in": ["saying", "letter", "other"], "renamed": ["saying", "letters"],
    },
    "inward": {
        "inward": ["saying"], "turned_about": ["saying"], "is_positive": ["saying"],
        "is_negative": ["saying"],
    },
    "kept": {
        "tried": ["web", "saying"], "is_kept": ["web", "saying", "world"],
        "fails_by": ["web", "saying", "world"],
    },
    "walks": {
        "pieces_of": ["saying"], "is_box": ["saying"], "head_of": ["saying"], "needed_in": ["saying"],
    },
    "shapes": {
        "count_rows": ["saying"], "row_of": ["saying", "number"], "needing": ["saying", "number"],
        "needing_order": ["saying", "number"], "need_shape": ["saying"], "in_shape": ["saying"],
    },
    "forms": {
        "need_fact": ["fact", "many"], "need_form": ["form"], "fact_worlds": ["web", "fact", "worlds"],
        "rows_at": ["web", "clause", "world"], "form_holds": ["web", "form", "world"],
        "form_worlds": ["web", "form"], "breaks": ["web", "form", "world"],
    },
    "formdeeds": {
        "both_forms": ["form", "other"], "either_forms": ["form", "other"], "under_way": ["way", "form"],
    },
    "there": {
        "form_of": ["saying"], "facts_of": ["saying", "number"], "kept_worlds": ["web", "saying"],
        "same_forms": ["saying", "other"],
    },
    "failing": {
        "failing": ["web", "saying", "world"], "is_failing": ["web", "saying", "world", "value"],
    },
    "back": {"saying_of": ["form"], "bared": ["saying"]},
    "forward": {"is_forward": ["form"], "forward_saying": ["form"]},
    "lots": {
        "need_term": ["value"], "need_lot": ["value"], "lot_keeps": ["web", "lot", "marking", "worlds"],
        "lot_of": ["saying", "number"], "moves_at": ["lot", "place"], "moved": ["lot", "place", "word"],
    },
    "away": {
        "put_away": ["lot", "letter", "side"], "led_away": ["lot", "paper"],
        "is_away_paper": ["lot", "goal", "value"], "away": ["saying", "number", "letters"],
    },
    "parts": {
        "closed_from": ["web", "worlds", "both"], "part_of": ["web", "worlds"], "beside": ["webs"],
    },
    "folds": {
        "is_fold": ["web", "image", "both", "value"], "all_folds": ["web", "image", "both"],
        "least_image": ["web", "both"],
    },
    "pictures": {
        "goes_through": ["web"], "root_of": ["web"], "part_from": ["web", "world"], "picture": ["web"],
        "is_pictured": ["web", "world", "image"],
    },
    "closures": {"in_closure": ["webs", "web"], "telling": ["webs", "web"]},
    "closings": {
        "is_closing": ["form"], "added": ["web", "form"], "is_closed": ["web", "form"], "closed_web": ["web", "form"],
        "closing_paper": ["web", "form"], "is_closing_paper": ["web", "form", "goal", "value"],
    },
}


class TestInterface(unittest.TestCase):
    def test_functions(self):
        for file, functions in FUNCTIONS.items():
            module = importlib.import_module(f"anymarks.{file}")
            for name, parameters in functions.items():
                with self.subTest(name):
                    function = getattr(module, name)
                    self.assertTrue(inspect.isfunction(function))
                    self.assertEqual(function.__module__, f"anymarks.{file}")
                    self.assertEqual(function.__name__, name)
                    found = inspect.signature(function).parameters
                    self.assertEqual(list(found), parameters)
                    for parameter in found.values():
                        self.assertEqual(parameter.kind, parameter.POSITIONAL_OR_KEYWORD)
                        self.assertIs(parameter.default, parameter.empty)


if __name__ == "__main__":
    unittest.main()
