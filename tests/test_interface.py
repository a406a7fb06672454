"""Names, arguments and places of the interface, for the stages that have landed."""

import importlib
import inspect
import unittest

CLASSES = {
    "modes": {
        "Mode": {
            "__init__": ["self", "word"],
            "is_weaker": ["self", "other"],
            "clashes": ["self", "other"],
            "__or__": ["self", "other"],
            "__eq__": ["self", "other"],
            "strongest": ["words"],
            "word": None,
            "rank": None,
        },
    },
    "fates": {
        "Fates": {
            "__init__": ["self"],
            "begin": ["self"],
            "save": ["self", "number"],
            "release": ["self", "number"],
            "back": ["self", "number"],
            "prepare": ["self", "number"],
            "commit": ["self", "number"],
            "abort": ["self", "number"],
            "crash": ["self"],
            "operations": None,
            "moment": ["self"],
            "running": ["self"],
            "state": ["self", "number"],
            "parts": ["self", "number"],
            "root": ["self", "part"],
            "owner": ["self", "part"],
            "fate": ["self", "part"],
            "transaction": ["self", "part"],
            "around": ["self", "part"],
            "joined_at": ["self", "part"],
            "ended_at": ["self", "part"],
        },
    },
}


class Interface(unittest.TestCase):
    def test_classes_stand_in_their_files(self):
        for file, classes in CLASSES.items():
            module = importlib.import_module(f"rowmarks.{file}")
            for name in classes:
                self.assertEqual(getattr(module, name).__module__, f"rowmarks.{file}")

    def test_methods_stand_in_their_classes(self):
        for file, classes in CLASSES.items():
            module = importlib.import_module(f"rowmarks.{file}")
            for name, methods in classes.items():
                body = vars(getattr(module, name))
                for word, arguments in methods.items():
                    with self.subTest(f"{name}.{word}"):
                        self.assertIn(word, body)
                        self.check(body[word], arguments)

    def check(self, found, arguments):
        if arguments is None:
            self.assertIsInstance(found, property)
            return
        plain = found.__func__ if isinstance(found, staticmethod) else found
        self.assertEqual(list(inspect.signature(plain).parameters), arguments)


if __name__ == "__main__":
    unittest.main()
