"""The interface: what there is, in which file, and under which names its arguments go; bounds; errors."""

import importlib
import inspect
import unittest

from roomahead import bounds, errors
from tests.helper import HALL, WRONG_VALUES

FUNCTIONS = {
    "nets": {
        "net_error": "value", "serves": "net lane aim", "aims": "net lane", "ahead": "net lane aim",
        "renamed": "net order", "relaned": "net order",
    },
    "nettexts": {"net_text": "net", "read_net": "value"},
    "stands": {"stand_error": "net value", "empty": "net"},
    "moving": {
        "deed_error": "net stand value", "done": "net stand deed", "led": "net stand deeds",
        "open_deeds": "net stand", "moves": "net stand", "stuck": "net stand", "held_fast": "net stand",
    },
    "deedtexts": {"deeds_text": "deeds", "read_deeds": "value"},
    "lots": {
        "free": "net", "waves": "net", "lot_error": "net value", "greatest_lot": "net", "joined": "one other",
        "filling": "net lot",
    },
    "papers": {"row_error": "net value", "paper": "net", "paper_error": "net value"},
    "prices": {"price": "net lot", "cheapest_lot": "net", "most_letters": "net", "soonest_stuck": "net"},
    "homes": {
        "ring": "net aim", "dead_ends": "net", "settles": "net", "longest": "net aim", "measure": "net stand",
        "wayless": "net",
    },
    "rescues": {"homeward": "net stand"},
    "makers": {
        "grid": "wide high room", "circle": "houses room", "nearest": "houses lanes", "up_down": "houses lanes root",
        "one_way": "houses room",
    },
    "choices": {
        "choices_left": "net", "with_choice": "net choice", "without_choice": "net choice", "addable": "net",
        "widest": "net", "mending": "net",
    },
    "falls": {"without": "net gone", "risky": "net"},
    "levels": {"only": "net group", "bad_groups": "net", "fewest_levels": "net", "levelled": "net told"},
    "stages": {
        "changed": "old new", "stage_lot": "old new before now", "stage_filling": "old new before now lot",
    },
    "exchanges": {"exchange_row": "old new", "least_still": "old new", "still_plan": "old new"},
    "askdeeds": {
        "ask_stand_error": "asks answers value", "ask_done": "asks answers stand deed",
        "ask_moves": "asks answers stand", "ask_stuck": "asks answers stand",
    },
    "asklots": {
        "ask_free": "asks answers", "ask_lot": "asks answers", "ask_filling": "asks answers lot",
        "apart": "asks answers",
    },
    "beats": {"homecomings": "net traffic rule", "state_at": "net traffic rule beat"},
    "benches": {"bench_behind": "log"},
}

METHODS = {
    "benches": {
        "Bench": {
            "net": "name", "put": "name net", "drop": "name", "way": "name house aim lane", "bar": "name house aim lane",
            "room": "name lane room", "undo": "", "redo": "", "at": "version", "copy": "", "free": "name",
            "paper": "name", "most": "name", "__eq__": "other",
        },
    },
    "shells": {"Shell": {"say": "line"}},
}
ATTRIBUTES = {"Bench": "names version log judged"}

BOUNDS = {
    "MAX_HOUSES": 6, "MAX_LANES": 16, "MAX_ROOM": 4, "MAX_DEEDS": 400, "MAX_MET": 300, "MAX_CHOICES": 16,
    "MAX_CHANGED": 4, "MAX_PUTS": 40, "MAX_BEAT": 100, "MAX_BEATS": 1000, "MAX_NAMES": 6, "MAX_EDITS": 40,
}

FIELDS = {
    "Unfit": "", "BadText": "", "BadNet": "error", "Refused": "deed", "TooMany": "limit", "NoNet": "given",
    "Taken": "given", "TooManyEdits": "", "NothingToUndo": "", "NothingToRedo": "", "NoVersion": "given",
    "BadLog": "place",
}


class Functions(unittest.TestCase):

    def test_each_is_defined_in_its_file_with_its_arguments(self):
        for name, functions in FUNCTIONS.items():
            module = importlib.import_module(f"roomahead.{name}")
            for function, arguments in functions.items():
                with self.subTest(module=name, function=function):
                    told = getattr(module, function)
                    self.assertEqual(told.__module__, f"roomahead.{name}")
                    parameters = inspect.signature(told).parameters
                    self.assertEqual(list(parameters), arguments.split())
                    for parameter in parameters.values():
                        self.assertEqual(parameter.kind, parameter.POSITIONAL_OR_KEYWORD)
                        self.assertIs(parameter.default, parameter.empty)


class Classes(unittest.TestCase):

    def test_each_is_defined_in_its_file_with_its_methods(self):
        for name, classes in METHODS.items():
            module = importlib.import_module(f"roomahead.{name}")
            for kind, methods in classes.items():
                told = getattr(module, kind)
                self.assertIsInstance(told, type)
                self.assertEqual(told.__module__, f"roomahead.{name}")
                for method, arguments in methods.items():
                    with self.subTest(kind=kind, method=method):
                        parameters = inspect.signature(vars(told)[method]).parameters
                        self.assertEqual(list(parameters)[1:], arguments.split())
                        for parameter in parameters.values():
                            self.assertEqual(parameter.kind, parameter.POSITIONAL_OR_KEYWORD)
                            self.assertIs(parameter.default, parameter.empty)

    def test_each_is_made_of_nothing_and_has_its_attributes(self):
        for name, classes in METHODS.items():
            for kind in classes:
                told = getattr(importlib.import_module(f"roomahead.{name}"), kind)
                self.assertEqual(list(inspect.signature(told).parameters), [])
                for attribute in ATTRIBUTES.get(kind, "").split():
                    self.assertTrue(hasattr(told(), attribute))


class Bounds(unittest.TestCase):

    def test_all_have_the_values_told(self):
        for name, value in BOUNDS.items():
            self.assertEqual(repr(getattr(bounds, name)), repr(value), name)


class Errors(unittest.TestCase):

    def test_the_root_is_a_value_error(self):
        self.assertEqual(errors.RoomError.__bases__, (ValueError,))

    def test_each_is_a_room_error_of_its_own_class(self):
        kinds = [getattr(errors, name) for name in FIELDS]
        for name, kind in zip(FIELDS, kinds):
            self.assertEqual((kind.__name__, kind.__module__), (name, "roomahead.errors"))
            self.assertEqual([other for other in kinds if issubclass(kind, other)], [kind])
            self.assertTrue(issubclass(kind, errors.RoomError))

    def test_those_without_a_field_are_made_of_nothing(self):
        for name, field in FIELDS.items():
            if field == "":
                error = getattr(errors, name)()
                self.assertEqual(vars(error), {})
                with self.assertRaises(ValueError):
                    raise error

    def test_a_field_keeps_what_was_passed_by_place_and_by_name(self):
        values = WRONG_VALUES + (("lane", 3), "form", "wheel", ("on", 0, 2), 16, HALL, [1, [2]], {"a": ()}, object())
        for name, field in FIELDS.items():
            if field == "":
                continue
            kind = getattr(errors, name)
            for value in values:
                for error in (kind(value), kind(**{field: value})):
                    self.assertIs(getattr(error, field), value)
                    self.assertEqual(list(vars(error)), [field])
                    self.assertIs(type(error), kind)
                    with self.assertRaises(kind) as caught:
                        raise error
                    self.assertIs(getattr(caught.exception, field), value)

    def test_a_field_must_be_told(self):
        for name, field in FIELDS.items():
            if field != "":
                with self.assertRaises(TypeError):
                    getattr(errors, name)()


if __name__ == "__main__":
    unittest.main()
