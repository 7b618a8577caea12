"""Point [12]: the errors."""

import unittest

from mostspecial import errors

GIVEN = """InvalidNames InvalidKind InvalidKinds InvalidText InvalidBinding InvalidPatterns InvalidUse InvalidLine
InvalidWord InvalidProgram InvalidRoots InvalidMost InvalidLibrary InvalidView InvalidSort InvalidLinked InvalidPairs
InvalidRow InvalidRows InvalidRule InvalidTerm""".split()
OTHERS = {
    "NotCovered": ["use"], "NoTaker": ["use"], "TwoLeast": ["use"], "HasTwo": ["use"],
    "NoChoice": ["generic", "terms"], "TwoChoices": ["generic", "terms"],
    "Lacks": ["generic", "terms", "word", "many"], "RingOfConstants": ["generic", "terms", "word"],
    "TooGreat": [], "TooFar": ["most"], "TooMany": ["most"], "NotApart": ["generic", "what"], "NoTerm": ["sight"],
    "NotMet": ["generic", "terms"], "TooLong": ["asks"], "Dead": ["mark"], "AsksTwo": ["mark"], "Unlike": ["text"],
}
ATTRIBUTES = {**{name: ["given"] for name in GIVEN}, **OTHERS}


class TestErrors(unittest.TestCase):
    def test_families(self):
        self.assertTrue(issubclass(errors.ChoiceError, ValueError))
        for name in ATTRIBUTES:
            made = getattr(errors, name)
            self.assertTrue(issubclass(made, errors.ChoiceError), name)
            for other in ATTRIBUTES:
                self.assertEqual(name == other, issubclass(made, getattr(errors, other)), (name, other))

    def test_no_other_classes_and_no_class_between(self):
        classes = {name for name, value in vars(errors).items() if isinstance(value, type)}
        self.assertEqual({"ChoiceError", *ATTRIBUTES}, classes)
        for name in ATTRIBUTES:
            self.assertEqual((errors.ChoiceError,), getattr(errors, name).__bases__)

    def test_the_very_objects(self):
        for name, attributes in ATTRIBUTES.items():
            for values in [[object() for _ in attributes], [[] for _ in attributes], [None for _ in attributes]]:
                made = getattr(errors, name)
                half = len(attributes) // 2
                named = dict(zip(attributes, values))
                behind = dict(list(named.items())[half:])
                for error in [made(*values), made(**named), made(*values[:half], **behind)]:
                    self.assertEqual(sorted(attributes), sorted(vars(error)))
                    for attribute, value in zip(attributes, values):
                        self.assertIs(value, getattr(error, attribute))

    def test_raised_and_caught(self):
        for name, attributes in ATTRIBUTES.items():
            made = getattr(errors, name)
            with self.assertRaises(errors.ChoiceError) as caught:
                raise made(*attributes)
            self.assertIs(made, type(caught.exception))
            with self.assertRaises(ValueError):
                raise made(**{attribute: 0 for attribute in attributes})
        with self.assertRaises(ValueError):
            raise errors.ChoiceError()

    def test_wrong_numbers_of_attributes(self):
        for name, attributes in ATTRIBUTES.items():
            if attributes:
                with self.assertRaises(TypeError):
                    getattr(errors, name)()


if __name__ == "__main__":
    unittest.main()
