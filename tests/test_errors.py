"""All classes of errors: their bases, and the field that keeps the argument."""

import unittest

from fusenets import errors

FIELDS = {
    "InvalidNumber": "value", "InvalidNet": "part", "InvalidPoint": "value", "InvalidLights": "index",
    "InvalidFuse": "value", "InvalidRules": "part", "InvalidJoin": "value", "InvalidObservations": "value",
    "InvalidName": "value", "InvalidAction": "value", "InvalidText": "index", "InvalidCommand": "value",
    "InvalidLengths": "value", "InvalidPrices": "value", "InvalidNodes": "value", "InvalidProgram": "index",
    "NameTaken": "name", "Blocked": "index", "LimitExceeded": "limit", "UnknownName": "name", "NothingToUndo": "user",
}

OTHER_BASES = {
    "NetError": ValueError, "NotATree": RuntimeError, "Blocked": RuntimeError, "LimitExceeded": OverflowError,
    "UnknownName": KeyError, "NothingToUndo": LookupError,
}


class Errors(unittest.TestCase):
    def test_classes(self):
        found = {name for name, value in vars(errors).items() if isinstance(value, type)}
        self.assertEqual(found, set(FIELDS) | {"NetError", "NotATree"})

    def test_bases(self):
        for name in set(FIELDS) | set(OTHER_BASES):
            with self.subTest(name=name):
                self.assertEqual(getattr(errors, name).__bases__, (OTHER_BASES.get(name, errors.NetError),))

    def test_no_class_is_under_another(self):
        classes = [getattr(errors, name) for name in set(FIELDS) | set(OTHER_BASES)]
        for one in classes:
            for other in classes:
                if one is not other and other is not errors.NetError:
                    self.assertFalse(issubclass(one, other), (one, other))

    def test_fields(self):
        for name, field in FIELDS.items():
            for value in (None, 0, "a", (1, [2]), {"a": []}, object(), 10 ** 5000):
                with self.subTest(name=name):
                    made = getattr(errors, name)(value)
                    self.assertIs(getattr(made, field), value)
                    self.assertEqual(list(vars(made)), [field])
                    self.assertIs(getattr(getattr(errors, name)(**{field: value}), field), value)

    def test_arguments_are_needed(self):
        for name in FIELDS:
            self.assertRaises(TypeError, getattr(errors, name))
            self.assertRaises(TypeError, getattr(errors, name), 1, 2)

    def test_without_arguments(self):
        for made in (errors.NetError(), errors.NotATree()):
            self.assertEqual(vars(made), {})

    def test_caught_by_base(self):
        with self.assertRaises(ValueError):
            raise errors.InvalidNumber(1)
        with self.assertRaises(RuntimeError):
            raise errors.NotATree()
        with self.assertRaises(OverflowError):
            raise errors.LimitExceeded(200)
        with self.assertRaises(KeyError):
            raise errors.UnknownName("a")
        with self.assertRaises(LookupError):
            raise errors.NothingToUndo("a")


if __name__ == "__main__":
    unittest.main()
