"""Names, arguments and places of the interface, for the stages that have landed."""

import importlib
import inspect
import unittest

CLASSES = {
    "modes": {
        "Mode": {
            "__init__": ["self", "word"],
            "is_weaker": ["self", "other"],
            "clashes": ["self", "other"],
            "__or__": ["self", "other"],
            "__eq__": ["self", "other"],
            "strongest": ["words"],
            "word": None,
            "rank": None,
        },
    },
    "fates": {
        "Fates": {
            "__init__": ["self"],
            "begin": ["self"],
            "save": ["self", "number"],
            "release": ["self", "number"],
            "back": ["self", "number"],
            "prepare": ["self", "number"],
            "commit": ["self", "number"],
            "abort": ["self", "number"],
            "crash": ["self"],
            "operations": None,
            "moment": ["self"],
            "running": ["self"],
            "state": ["self", "number"],
            "parts": ["self", "number"],
            "root": ["self", "part"],
            "owner": ["self", "part"],
            "fate": ["self", "part"],
            "transaction": ["self", "part"],
            "around": ["self", "part"],
            "joined_at": ["self", "part"],
            "ended_at": ["self", "part"],
        },
    },
    "sets": {
        "SetBook": {
            "__init__": ["self"],
            "write": ["self", "members"],
            "put": ["self", "number", "members"],
            "__getitem__": ["self", "number"],
            "forget": ["self", "number"],
            "__contains__": ["self", "number"],
            "__len__": ["self"],
            "taken": ["self"],
            "fitting": ["self", "need", "fates"],
        },
    },
    "locklists": {
        "LockList": {
            "__init__": ["self", "names"],
            "names": None,
            "lock": ["self", "number", "name", "mode"],
            "change": ["self", "number", "name", "mode"],
            "entries": ["self"],
            "is_idle": ["self", "entry"],
            "covers": ["self", "entry"],
            "profile": ["self", "number", "name"],
            "blockers": ["self", "name", "mode", "asker"],
        },
    },
    "rows": {
        "Row": {
            "__init__": ["self", "value"],
            "make": ["self", "value", "part", "mode"],
            "standing": ["self", "fates"],
            "base": ["self", "fates"],
            "newest": ["self", "fates"],
            "changer": ["self", "fates"],
            "kept": ["self"],
            "__getitem__": ["self", "number"],
            "mark": ["self", "number"],
            "set_mark": ["self", "number", "mark"],
            "remove": ["self", "number"],
        },
    },
}
FUNCTIONS = {
    "members": {
        "is_member": ["value"],
        "canonical": ["members", "fates"],
        "fits": ["members", "need", "fates"],
    },
}


class Interface(unittest.TestCase):
    def test_classes_stand_in_their_files(self):
        for file, classes in CLASSES.items():
            module = importlib.import_module(f"rowmarks.{file}")
            for name in classes:
                self.assertEqual(getattr(module, name).__module__, f"rowmarks.{file}")

    def test_methods_stand_in_their_classes(self):
        for file, classes in CLASSES.items():
            module = importlib.import_module(f"rowmarks.{file}")
            for name, methods in classes.items():
                body = vars(getattr(module, name))
                for word, arguments in methods.items():
                    with self.subTest(f"{name}.{word}"):
                        self.assertIn(word, body)
                        self.check(body[word], arguments)

    def test_functions_stand_in_their_files(self):
        for file, functions in FUNCTIONS.items():
            module = importlib.import_module(f"rowmarks.{file}")
            for name, arguments in functions.items():
                with self.subTest(f"{file}.{name}"):
                    found = getattr(module, name)
                    self.assertEqual(found.__module__, f"rowmarks.{file}")
                    self.check(found, arguments)

    def test_a_lock_list_derives_from_fates(self):
        bases = importlib.import_module("rowmarks.locklists").LockList.__bases__
        self.assertEqual(bases, (importlib.import_module("rowmarks.fates").Fates,))

    def test_the_asker_is_none_and_by_name_unless_told(self):
        blockers = importlib.import_module("rowmarks.locklists").LockList.blockers
        asker = inspect.signature(blockers).parameters["asker"]
        self.assertEqual((asker.default, asker.kind), (None, inspect.Parameter.KEYWORD_ONLY))

    def check(self, found, arguments):
        if arguments is None:
            self.assertIsInstance(found, property)
            return
        plain = found.__func__ if isinstance(found, staticmethod) else found
        self.assertEqual(list(inspect.signature(plain).parameters), arguments)


if __name__ == "__main__":
    unittest.main()
