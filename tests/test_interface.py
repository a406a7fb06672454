"""Names, arguments and places of the interface."""

import importlib
import inspect
import unittest

CLASSES = {
    "modes": {
        "Mode": {
            "__init__": ["self", "word"],
            "is_weaker": ["self", "other"],
            "clashes": ["self", "other"],
            "__or__": ["self", "other"],
            "__eq__": ["self", "other"],
            "strongest": ["words"],
            "word": None,
            "rank": None,
        },
    },
    "fates": {
        "Fates": {
            "__init__": ["self"],
            "begin": ["self"],
            "save": ["self", "number"],
            "release": ["self", "number"],
            "back": ["self", "number"],
            "prepare": ["self", "number"],
            "commit": ["self", "number"],
            "abort": ["self", "number"],
            "crash": ["self"],
            "operations": None,
            "moment": ["self"],
            "running": ["self"],
            "state": ["self", "number"],
            "parts": ["self", "number"],
            "root": ["self", "part"],
            "owner": ["self", "part"],
            "fate": ["self", "part"],
            "transaction": ["self", "part"],
            "around": ["self", "part"],
            "joined_at": ["self", "part"],
            "ended_at": ["self", "part"],
        },
    },
    "sets": {
        "SetBook": {
            "__init__": ["self"],
            "write": ["self", "members"],
            "put": ["self", "number", "members"],
            "__getitem__": ["self", "number"],
            "forget": ["self", "number"],
            "__contains__": ["self", "number"],
            "__len__": ["self"],
            "taken": ["self"],
            "fitting": ["self", "need", "fates"],
        },
    },
    "locklists": {
        "LockList": {
            "__init__": ["self", "names"],
            "names": None,
            "lock": ["self", "number", "name", "mode"],
            "change": ["self", "number", "name", "mode"],
            "entries": ["self"],
            "is_idle": ["self", "entry"],
            "covers": ["self", "entry"],
            "profile": ["self", "number", "name"],
            "blockers": ["self", "name", "mode", "asker"],
        },
    },
    "rows": {
        "Row": {
            "__init__": ["self", "value"],
            "make": ["self", "value", "part", "mode"],
            "standing": ["self", "fates"],
            "base": ["self", "fates"],
            "newest": ["self", "fates"],
            "changer": ["self", "fates"],
            "kept": ["self"],
            "__getitem__": ["self", "number"],
            "mark": ["self", "number"],
            "set_mark": ["self", "number", "mark"],
            "remove": ["self", "number"],
        },
    },
    "stores": {
        "Store": {
            "__init__": ["self", "values"],
            "lock": ["self", "number", "name", "mode"],
            "change": ["self", "number", "name", "mode", "value"],
            "profile": ["self", "number", "name"],
            "blockers": ["self", "name", "mode", "asker"],
            "read": ["self", "number", "name"],
            "names": None,
            "versions": ["self", "name"],
            "version": ["self", "name", "version"],
            "mark": ["self", "name", "version"],
            "need": ["self", "name", "version"],
            "base": ["self", "name"],
            "newest": ["self", "name"],
            "changer": ["self", "name"],
            "sets": ["self"],
            "writes": ["self"],
            "written": ["self"],
            "horizon": None,
            "move_horizon": ["self", "moment"],
            "at": ["self", "moment"],
            "clean": ["self"],
        },
    },
    "handles": {
        "Transaction": {
            "__init__": ["self", "store", "number"],
            "__getitem__": ["self", "name"],
            "__setitem__": ["self", "name", "value"],
            "__contains__": ["self", "name"],
            "lock": ["self", "name", "mode"],
            "change": ["self", "name", "value", "mode"],
            "save": ["self"],
            "release": ["self"],
            "back": ["self"],
            "prepare": ["self"],
            "commit": ["self"],
            "abort": ["self"],
            "profile": ["self", "name"],
            "attempt": ["self", "requests"],
        },
    },
    "rules": {
        "Rules": {
            "__init__": ["self", "reads", "carries", "marks", "harder", "drops", "cleans", "numbers"],
            "words": None,
            "__eq__": ["self", "other"],
        },
    },
}
FUNCTIONS = {
    "members": {
        "is_member": ["value"],
        "canonical": ["members", "fates"],
        "fits": ["members", "need", "fates"],
    },
    "histories": {
        "is_operation": ["value"],
        "first_refused": ["values", "history"],
        "run": ["values", "history"],
        "listed": ["values", "history"],
    },
    "papers": {
        "papers": ["values", "history"],
        "readings": ["values", "history", "name"],
    },
    "markings": {
        "marking": ["values", "history"],
        "written": ["values", "history"],
        "fewest_sets": ["values", "history"],
        "reasons": ["values", "history"],
        "first_misfit": ["values", "history", "value"],
        "fits_history": ["values", "history", "value"],
    },
    "telling": {
        "told_profile": ["values", "history", "value", "number", "name"],
        "first_untold": ["values", "history", "value"],
        "tells_history": ["values", "history", "value"],
    },
    "rules": {
        "every_table": [],
        "is_right": ["rules"],
        "told": ["rules", "values", "history", "name", "mode", "asker"],
        "wrong_history": ["rules"],
        "told_by": ["rules", "values", "history", "name"],
    },
    "texts": {
        "history_text": ["history"],
        "marking_text": ["marking"],
        "rules_text": ["rules"],
        "read_history": ["text"],
        "read_marking": ["text"],
        "read_rules": ["text"],
    },
}


class Interface(unittest.TestCase):
    def test_classes_stand_in_their_files(self):
        for file, classes in CLASSES.items():
            module = importlib.import_module(f"rowmarks.{file}")
            for name in classes:
                self.assertEqual(getattr(module, name).__module__, f"rowmarks.{file}")

    def test_methods_stand_in_their_classes(self):
        for file, classes in CLASSES.items():
            module = importlib.import_module(f"rowmarks.{file}")
            for name, methods in classes.items():
                body = vars(getattr(module, name))
                for word, arguments in methods.items():
                    with self.subTest(f"{name}.{word}"):
                        self.assertIn(word, body)
                        self.check(body[word], arguments)

    def test_functions_stand_in_their_files(self):
        for file, functions in FUNCTIONS.items():
            module = importlib.import_module(f"rowmarks.{file}")
            for name, arguments in functions.items():
                with self.subTest(f"{file}.{name}"):
                    found = getattr(module, name)
                    self.assertEqual(found.__module__, f"rowmarks.{file}")
                    self.check(found, arguments)

    def test_lock_lists_and_stores_derive_from_fates(self):
        fates = importlib.import_module("rowmarks.fates").Fates
        self.assertTrue(issubclass(importlib.import_module("rowmarks.locklists").LockList, fates))
        self.assertTrue(issubclass(importlib.import_module("rowmarks.stores").Store, fates))

    def test_what_is_passed_by_name_only(self):
        store = importlib.import_module("rowmarks.stores").Store
        handle = importlib.import_module("rowmarks.handles").Transaction
        some = importlib.import_module("rowmarks.locklists").LockList
        for found, name, default in (
            (some.blockers, "asker", None), (store.blockers, "asker", None),
            (handle.lock, "mode", "hold"), (handle.change, "mode", "change"),
            (importlib.import_module("rowmarks.rules").told, "asker", None),
        ):
            parameter = inspect.signature(found).parameters[name]
            self.assertEqual((parameter.default, parameter.kind), (default, inspect.Parameter.KEYWORD_ONLY))

    def test_tables_are_generated(self):
        self.assertTrue(inspect.isgeneratorfunction(importlib.import_module("rowmarks.rules").every_table))

    def check(self, found, arguments):
        if arguments is None:
            self.assertIsInstance(found, property)
            return
        plain = found.__func__ if isinstance(found, staticmethod) else found
        self.assertEqual(list(inspect.signature(plain).parameters), arguments)


if __name__ == "__main__":
    unittest.main()
