"""Points 2 and 16: the error classes and the limits."""

import unittest

from enoughcame import errors
from enoughcame.most import MOST, MOST_PEOPLE

CLASSES = {
    "BadText": (ValueError, "text", "1: 0"),
    "BadLine": (ValueError, "number", 3),
    "Contradiction": (ValueError, "evidence", (1, 0, 1)),
    "Stuck": (ValueError, "people", (4,)),
    "Misfit": (ValueError, "place", 0),
    "NoInvitation": (ValueError, "people", (2, 4)),
    "NoPerson": (LookupError, "person", -1),
    "NoPlace": (LookupError, "place", 7),
    "NoNumber": (LookupError, "number", 10 ** 30),
    "NoOperation": (LookupError, "many", -5),
    "Blocked": (RuntimeError, "pair", (0, 1)),
    "Early": (RuntimeError, "person", 5),
    "Here": (RuntimeError, "person", 3),
    "TooMany": (OverflowError, "many", 13),
    "Full": (OverflowError, "many", 20),
}


def own_classes():
    return {name: value for name, value in vars(errors).items() if isinstance(value, type)}


class ErrorClasses(unittest.TestCase):
    def test_all_fifteen_exist(self):
        self.assertEqual(len(CLASSES), 15)
        for name in CLASSES:
            with self.subTest(name):
                self.assertIn(name, own_classes())

    def test_attribute_by_position(self):
        for name, (_, attribute, value) in CLASSES.items():
            with self.subTest(name):
                error = getattr(errors, name)(value)
                self.assertEqual(vars(error), {attribute: value})

    def test_attribute_by_name(self):
        for name, (_, attribute, value) in CLASSES.items():
            with self.subTest(name):
                error = getattr(errors, name)(**{attribute: value})
                self.assertEqual(vars(error), {attribute: value})

    def test_attribute_belongs_to_its_error(self):
        for name, (_, attribute, value) in CLASSES.items():
            with self.subTest(name):
                first = getattr(errors, name)(value)
                getattr(errors, name)("another")
                self.assertEqual(getattr(first, attribute), value)

    def test_direct_subclass_of_the_builtin_class_alone(self):
        for name, (builtin, _, _) in CLASSES.items():
            with self.subTest(name):
                self.assertEqual(getattr(errors, name).__bases__, (builtin,))

    def test_no_subclass_of_another_class_of_the_package(self):
        for name in CLASSES:
            with self.subTest(name):
                above = getattr(errors, name).__mro__[1:]
                self.assertEqual({one.__module__ for one in above}, {"builtins"})

    def test_no_subclass_of_each_other(self):
        for one in CLASSES:
            for other in CLASSES:
                if one != other:
                    with self.subTest(one=one, other=other):
                        self.assertFalse(issubclass(getattr(errors, one), getattr(errors, other)))

    def test_raised_and_caught(self):
        for name, (builtin, attribute, value) in CLASSES.items():
            with self.subTest(name):
                with self.assertRaises(builtin) as caught:
                    raise getattr(errors, name)(value)
                self.assertEqual(getattr(caught.exception, attribute), value)


class Limits(unittest.TestCase):
    def test_most(self):
        self.assertEqual((MOST, MOST_PEOPLE), (300, 12))


if __name__ == "__main__":
    unittest.main()
