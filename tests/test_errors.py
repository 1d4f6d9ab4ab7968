"""The error classes of the interface (point 2)."""

import unittest

from formroads import errors

NAMES = (
    "InvalidName DuplicateName UnknownName TooMany InvalidText InvalidKind InvalidShape InvalidForm InvalidSchema "
    "InvalidOrder InvalidStep EmptyTable InvalidRegrouping NotJoined InvalidNote Unreached Clash Stopped Conflict "
    "InvalidCertificate NotForward RuleLost InvalidQuery NotAnswered InvalidMove NothingToUndo"
).split()


class ErrorsTest(unittest.TestCase):
    def test_all_are_direct_subclasses(self):
        self.assertEqual(errors.FormroadsError.__bases__, (ValueError,))
        for name in NAMES:
            self.assertEqual(getattr(errors, name).__bases__, (errors.FormroadsError,), name)

    def test_attributes(self):
        self.assertEqual(errors.Stopped("red").label, "red")
        walks = (["a", "b"], ["a", "c", "d"])
        self.assertEqual(errors.Conflict(walks).walks, (["a", "b"], ["a", "c", "d"]))
        self.assertEqual(errors.InvalidCertificate(3).line, 3)
        self.assertEqual(errors.RuleLost(("full", 0)).rule, ("full", 0))

    def test_each_can_be_raised_and_caught(self):
        arguments = {"Stopped": "red", "Conflict": (["a", "b"],), "InvalidCertificate": 0, "RuleLost": ("parted", 1)}
        for name in NAMES:
            with self.assertRaises(errors.FormroadsError) as caught:
                raise getattr(errors, name)(arguments.get(name, "words"))
            self.assertIs(type(caught.exception), getattr(errors, name))
