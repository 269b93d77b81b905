"""Promise 5: the errors."""

import inspect
import unittest

from nestboards import errors

WITH_STRING = [
    "InvalidTeam", "InvalidWay", "InvalidList", "InvalidWorkers", "InvalidJobs", "InvalidPairs", "InvalidCounts",
    "InvalidWorker", "InvalidJob", "InvalidNumber", "InvalidIndex", "NoWay", "NothingToUndo",
]
BELOW = WITH_STRING + ["Refused", "InvalidText"]


class ErrorsTest(unittest.TestCase):
    def test_base(self):
        self.assertEqual(errors.NestError.__bases__, (ValueError,))

    def test_each_is_a_direct_subclass(self):
        for name in BELOW:
            with self.subTest(name=name):
                self.assertEqual(getattr(errors, name).__bases__, (errors.NestError,))

    def test_each_is_defined_here_under_its_name(self):
        for name in BELOW + ["NestError"]:
            with self.subTest(name=name):
                made = getattr(errors, name)
                self.assertEqual((made.__module__, made.__name__), ("nestboards.errors", name))

    def test_none_is_a_subclass_of_another_one(self):
        for name in BELOW:
            for other in BELOW:
                below = issubclass(getattr(errors, name), getattr(errors, other))
                self.assertEqual(below, name == other, (name, other))

    def test_no_other_classes(self):
        found = [name for name, thing in vars(errors).items() if inspect.isclass(thing)]
        self.assertEqual(sorted(found), sorted(BELOW + ["NestError"]))

    def test_made_with_one_string(self):
        for name in WITH_STRING + ["NestError"]:
            with self.subTest(name=name):
                self.assertEqual(str(getattr(errors, name)("why it is so")), "why it is so")

    def test_raised_and_caught_as_any_of_them(self):
        for caught in (errors.NestError, ValueError):
            for name in WITH_STRING:
                with self.assertRaises(caught):
                    raise getattr(errors, name)("x")
            with self.assertRaises(caught):
                raise errors.Refused("idle")
            with self.assertRaises(caught):
                raise errors.InvalidText(0)

    def test_refused_keeps_its_word(self):
        for word in ("busy", "unable", "taken", "idle", ""):
            self.assertEqual(errors.Refused(word).word, word)
            self.assertEqual(errors.Refused(word=word).word, word)

    def test_invalid_text_keeps_its_place(self):
        for place in (0, 1, 20, 10 ** 30):
            self.assertEqual(errors.InvalidText(place).place, place)
            self.assertEqual(errors.InvalidText(place=place).place, place)


if __name__ == "__main__":
    unittest.main()
