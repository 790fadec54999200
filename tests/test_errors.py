"""All errors of the program."""
import unittest

from redolots import errors

BY_ATTRIBUTES = {
    (): ("InvalidRule", "UnknownPlace", "NoLog", "NotRenaming", "NothingToUndo", "NothingToRedo"),
    ("at",): ("InvalidLine", "InvalidRun", "InvalidGoal", "InvalidDeed", "NotPlain", "NotCareful", "IdleLine",
              "NotAllowed"),
    ("block",): ("InvalidImage", "NotARoot", "Unsettled"),
    ("line",): ("InvalidText",),
    ("limit",): ("TooMany",),
    ("first", "second"): ("TwoRoots",),
    ("value",): ("NoSafeLog", "NotAnchored", "InvalidMost"),
    ("reason",): ("NoPlan",),
    ("rings",): ("Undecided",),
}


def all_classes():
    return [(getattr(errors, name), names) for names, group in BY_ATTRIBUTES.items() for name in group]


class ErrorsTest(unittest.TestCase):
    def test_base_class(self):
        self.assertEqual((ValueError,), errors.RedoError.__bases__)

    def test_each_class_stands_directly_under_the_base(self):
        for error, _ in all_classes():
            with self.subTest(error.__name__):
                self.assertEqual((errors.RedoError,), error.__bases__)
                self.assertEqual("redolots.errors", error.__module__)

    def test_created_by_position(self):
        for error, names in all_classes():
            with self.subTest(error.__name__):
                values = [(7, "a"), (8, "b")][:len(names)]
                made = error(*values)
                self.assertIsInstance(made, ValueError)
                for name, value in zip(names, values):
                    self.assertEqual(value, getattr(made, name))

    def test_can_be_raised_and_caught(self):
        for error, names in all_classes():
            with self.subTest(error.__name__):
                for caught in (error, errors.RedoError, ValueError):
                    with self.assertRaises(caught):
                        raise error(*names)

    def test_attributes_of_any_size(self):
        self.assertEqual(10 ** 5000, errors.InvalidMost(10 ** 5000).value)


if __name__ == "__main__":
    unittest.main()
