"""The interface: its names stand in their modules, and are defined there."""

import importlib
import inspect
import unittest

import truenames

INTERFACE = {
    "truenames.errors": {
        "NamesError": None, "InvalidMove": None, "InvalidGroup": None, "InvalidTable": None, "InvalidWord": None,
        "InvalidVector": None, "InvalidDouble": None, "InvalidRing": None, "InvalidStrings": None,
        "InvalidWeights": None, "InvalidOperation": None, "ParseError": None, "InvalidNumber": None,
        "UnknownName": None, "TooMany": None, "Refused": None, "NothingToUndo": None,
    },
    "truenames.group.moves": {
        "MAX_MOVED": 24, "MAX_CLOSURE": 1000,
        "is_move": ["value"], "joined": ["one", "other"], "undone": ["move"], "raised": ["move", "many"],
        "cycles": ["move"], "order_of": ["move"], "closure": ["size", "makers"], "orbits": ["size", "makers"],
        "way": ["size", "makers", "start", "goal"], "is_way": ["size", "makers", "start", "goal", "value"],
    },
    "truenames.group.groups": {
        "MAX_GROUP": 24, "MAX_LIKE": 12, "MAX_ALL": 8,
        "group_paper": ["rows"], "is_group_paper": ["rows", "value"], "Group": ["rows"], "likenesses": ["group"],
        "like_paper": ["one", "other"], "is_like_paper": ["one", "other", "value"], "all_groups": ["size"],
    },
    "truenames.table.passing": {
        "MAX_LETTERS": 8, "MAX_LIKENED": 6, "MAX_FORMED": 5,
        "fair_paper": ["rows"], "is_fair_paper": ["rows", "value"], "dots_paper": ["dots"],
        "is_dots_paper": ["dots", "value"], "Passing": ["rows"], "dots_of": ["table"], "likenesses_of": ["table"],
        "form_of": ["table"], "least_form": ["table"],
    },
    "truenames.word.words": {
        "MAX_WORD": 200, "MAX_LED": 60, "MAX_KIN": 5000,
        "passed_at": ["table", "word", "index"], "walked": ["table", "word", "indices"],
        "crossed": ["table", "word", "move"], "true_names": ["table", "word"], "word_of_names": ["table", "names"],
        "kin_paper": ["table", "one", "other"], "is_kin_paper": ["table", "one", "other", "value"],
        "steps_between": ["table", "one", "other"], "kin_count": ["table", "word"], "kin_words": ["table", "word"],
    },
    "truenames.word.vectors": {
        "vector_of": ["table", "word"], "turning": ["table", "vector"], "word_of": ["table", "vector"],
        "added": ["table", "one", "other"], "taken_back": ["table", "vector"], "power": ["table", "vector", "many"],
        "rest_behind": ["table", "one", "other"], "rest_ahead": ["table", "one", "other"],
        "is_beginning": ["table", "one", "other"], "is_ending": ["table", "one", "other"],
        "least_common": ["table", "one", "other"], "greatest_common": ["table", "one", "other"],
    },
    "truenames.word.still": {
        "MAX_TURNINGS": 1000,
        "turnings": ["table"], "still_base": ["table"], "own_count": ["table"], "exponent": ["table"],
        "remainder": ["table", "vector"], "is_still": ["table", "vector"], "folded": ["table", "vector"],
        "folded_added": ["table", "one", "other"],
    },
    "truenames.double.doubles": {
        "MAX_DOUBLE": 24,
        "Double": ["plus", "circle"], "double_paper": ["plus", "circle"],
        "is_double_paper": ["plus", "circle", "value"], "turns_paper": ["plus", "turns"],
        "is_turns_paper": ["plus", "turns", "value"], "table_of": ["double"],
    },
    "truenames.double.listing": {
        "MAX_LISTED": 8,
        "turn_rows": ["plus"], "doubles_on": ["plus"], "kind_count": ["plus"], "turns_like": ["plus", "kind"],
        "kept_lots": ["group", "kind"],
    },
    "truenames.double.own": {
        "MAX_OWN": 24,
        "own_double": ["table"], "move_of": ["table", "thing"], "thing_of": ["table", "vector"],
        "is_own": ["table", "double", "names"],
    },
    "truenames.double.making": {
        "MAX_CHOICES": 8, "MAX_QUIET": 4, "MAX_FAIR": 3,
        "stills": ["double", "thing"], "choices_paper": ["double", "choices"],
        "is_choices_paper": ["double", "choices", "value"], "made": ["double", "choices"], "choices_of": ["table"],
        "all_quiet": ["size"], "all_fair": ["size"], "quiet_kinds": ["size"],
    },
    "truenames.table.levels": {
        "falls_paper": ["table"], "is_falls_paper": ["table", "value"], "letter_parts": ["table"],
        "is_kept_lot": ["table", "letters"], "part_table": ["table", "letters"], "drawn": ["table"],
        "levels": ["table"], "level": ["table"], "bent_union": ["one", "other", "first", "second"],
    },
    "truenames.double.ideals": {
        "left_parts": ["double"], "ideals": ["double"], "is_left_part": ["double", "things"],
        "is_ideal": ["double", "things"], "quotient_of": ["double", "things"], "still_part": ["double"],
        "still_centre": ["double"], "still_levels": ["double"], "starred": ["double", "one", "other"],
        "right_row": ["double"], "left_row": ["double"],
    },
    "truenames.double.rings": {
        "MAX_MULTIPLES": 24,
        "ring_paper": ["double"], "is_ring_paper": ["double", "value"], "double_of_ring": ["plus", "product"],
        "multiples": ["size", "step"], "both_ways_paper": ["double"], "is_both_ways_paper": ["double", "value"],
        "swapped": ["double"],
    },
    "truenames.table.shadows": {
        "shadow_paper": ["rows"], "is_shadow_paper": ["rows", "value"], "shadow_of": ["table"],
        "table_of_shadow": ["rows"], "row_map": ["table", "word"], "row_back": ["table", "names"],
        "shadow_passed": ["rows", "names", "index"], "calm_paper": ["rows"], "is_calm_paper": ["rows", "value"],
    },
    "truenames.string.closed": {
        "MAX_STRINGS": 5, "MAX_CROSSINGS": 40, "MAX_ROWS": 4096,
        "colours": ["table", "strings", "word"], "colour_count": ["table", "strings", "word"],
        "shadow_colour_count": ["rows", "strings", "word"], "braid_move": ["strings", "word"],
        "rings_of": ["strings", "word"], "turned_round": ["strings", "word", "count"],
        "with_turn": ["strings", "word", "sign"],
    },
    "truenames.string.weights": {
        "MAX_MODULUS": 30, "MAX_DIAGONAL": 24,
        "weights_paper": ["table", "modulus", "weights"],
        "is_weights_paper": ["table", "modulus", "weights", "value"],
        "of_letters": ["table", "modulus", "numbers"], "source_paper": ["table", "modulus", "weights"],
        "is_source_paper": ["table", "modulus", "weights", "value"], "weight_counts": ["table", "modulus"],
        "diagonal_of": ["rows"], "string_sums": ["table", "modulus", "weights", "strings", "word"],
    },
    "truenames.double.joins": {
        "MAX_LIKE_DOUBLE": 8, "MAX_LIKENED_DOUBLE": 12,
        "join_paper": ["one", "other", "acts"], "is_join_paper": ["one", "other", "acts", "value"],
        "join": ["one", "other", "acts"], "double_form": ["double"], "least_double": ["double"],
        "like_double_paper": ["one", "other"], "is_like_double_paper": ["one", "other", "value"],
        "double_likenesses": ["double"],
    },
    "truenames.desk.desk": {"MAX_KEPT": 12, "MAX_PROMISES": 12, "Desk": ["size"]},
    "truenames.text.strings": {"MAX_TEXT": 3000, "write_value": ["value"], "read_value": ["text"]},
}
METHODS = {
    ("truenames.group.groups", "Group"): {
        "times": ["a", "b"], "back": ["a"], "order_of": ["a"], "raised": ["a", "many"], "closure": ["things"],
        "parts": [], "is_whole": ["things"], "quotient": ["things"], "cyclic": ["size"], "polygon": ["size"],
        "quaternions": [], "of_moves": ["size", "makers"], "__mul__": ["other"], "__eq__": ["other"], "__len__": [],
        "__str__": [],
    },
    ("truenames.table.passing", "Passing"): {
        "unmoved": ["size"], "of_left": ["left"], "of_dots": ["dots"], "of_pair": ["one", "other"],
        "passed": ["one", "other"], "passed_back": [], "mirrored": [], "renamed": ["order"], "__mul__": ["other"],
        "__eq__": ["other"], "__len__": [], "__str__": [],
    },
    ("truenames.double.doubles", "Double"): {
        "of_turns": ["plus", "turns"], "both": ["group"], "about": ["group"], "star": ["a", "b"], "renamed": ["order"],
        "__invert__": [], "__mul__": ["other"], "__eq__": ["other"], "__len__": [], "__str__": [],
    },
    ("truenames.desk.desk", "Desk"): {
        "keep": ["name", "item"], "pass_at": ["table", "word", "index"], "rename": ["order"], "drop": ["name"],
        "promise": ["label", "promise"], "let_go": ["label"], "undo": ["times"], "redo": ["times"], "during": ["call"],
        "item": ["name"], "promised": ["label"], "twin": [], "__contains__": ["value"], "__eq__": ["other"],
        "__len__": [], "__str__": [],
    },
}
CLASS_METHODS = (
    "cyclic", "polygon", "quaternions", "of_moves", "unmoved", "of_left", "of_dots", "of_pair", "of_turns", "both", "about",
)
PROPERTIES = {
    ("truenames.group.groups", "Group"): ("rows", "size", "unit", "is_commutative", "centre"),
    ("truenames.table.passing", "Passing"): ("size", "rows", "left", "right", "is_quiet"),
    ("truenames.double.doubles", "Double"): ("plus", "circle", "size", "unit", "turns", "is_plain"),
    ("truenames.desk.desk", "Desk"): ("size", "names", "labels", "deeds"),
}
GENERATORS = (
    ("truenames.group.groups", "likenesses"), ("truenames.table.passing", "likenesses_of"),
    ("truenames.word.words", "kin_words"), ("truenames.double.listing", "turn_rows"),
    ("truenames.double.listing", "doubles_on"), ("truenames.double.making", "all_quiet"),
    ("truenames.double.making", "all_fair"), ("truenames.string.closed", "colours"),
    ("truenames.double.joins", "double_likenesses"),
)


def parameters(call):
    return [name for name in inspect.signature(call).parameters if name not in ("self", "cls")]


class TestInterface(unittest.TestCase):

    def test_names_and_parameters(self):
        for place, names in INTERFACE.items():
            module = importlib.import_module(place)
            for name, told in names.items():
                found = getattr(module, name)
                if isinstance(told, int):
                    self.assertEqual(found, told)
                    self.assertIs(type(found), int)
                    continue
                self.assertEqual(found.__module__, place, name)
                self.assertEqual(found.__name__, name)
                if told is not None:
                    self.assertEqual(parameters(found), told, name)

    def test_methods_stand_in_their_own_class(self):
        for (place, name), methods in METHODS.items():
            shown = getattr(importlib.import_module(place), name)
            for method, told in methods.items():
                self.assertIn(method, vars(shown), (name, method))
                self.assertEqual(parameters(getattr(shown, method)), told, (name, method))
                self.assertEqual(isinstance(vars(shown)[method], classmethod), method in CLASS_METHODS)

    def test_parameters_by_keyword(self):
        """[0.3]: just those of `undo` and `redo`, which need not be told."""
        calls = [
            getattr(importlib.import_module(place), name)
            for place, names in INTERFACE.items() for name, told in names.items() if isinstance(told, list)
        ]
        for (place, name), methods in METHODS.items():
            calls += [getattr(getattr(importlib.import_module(place), name), method) for method in methods]
        found = [
            (call.__qualname__, told.name, told.kind, told.default)
            for call in calls for told in inspect.signature(call).parameters.values()
            if told.kind is not told.POSITIONAL_OR_KEYWORD or told.default is not told.empty
        ]
        by_keyword = inspect.Parameter.KEYWORD_ONLY
        self.assertEqual(found, [("Desk.undo", "times", by_keyword, 1), ("Desk.redo", "times", by_keyword, 1)])

    def test_properties_stand_in_their_own_class(self):
        for (place, name), told in PROPERTIES.items():
            shown = getattr(importlib.import_module(place), name)
            for attribute in told:
                self.assertIsInstance(vars(shown)[attribute], property)

    def test_generators(self):
        for place, name in GENERATORS:
            self.assertTrue(inspect.isgeneratorfunction(getattr(importlib.import_module(place), name)))

    def test_the_package(self):
        self.assertTrue(truenames.__file__.endswith("__init__.py"))


if __name__ == "__main__":
    unittest.main()
