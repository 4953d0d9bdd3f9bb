import unittest

from signrounds import errors

WITH_TEXT = """InvalidWeb InvalidTie InvalidPlace InvalidLot InvalidSign InvalidRow InvalidRing InvalidCount
InvalidTies InvalidRings InvalidSigns InvalidWeights InvalidThrees InvalidChoice InvalidTable InvalidWalk
InvalidCommand InvalidPaper Refused NothingToUndo NoSpan NotReady""".split()
WITH_FIELD = {
    "InvalidText": "index", "InvalidDeeds": "index", "TooMany": "count", "OverLimit": "count",
    "NotBalanced": "ring", "NotAlike": "ring", "NotTheta": "rings", "NotFree": "ties", "NotShown": "ties",
    "NotAllTied": "tie", "NotEven": "four", "NotStanding": "weights",
}
VALUES = [0, 7, None, (), (0, 1, 2), ((0, 1, 2), (0, 1, 3)), [1, [2]], "", "text", True, 10**89]


class Errors(unittest.TestCase):
    def test_all_stand_directly_under_sign_error(self):
        self.assertEqual(errors.SignError.__bases__, (ValueError,))
        for name in WITH_TEXT + list(WITH_FIELD):
            self.assertEqual(getattr(errors, name).__bases__, (errors.SignError,), name)
            self.assertEqual(getattr(errors, name).__module__, "signrounds.errors")

    def test_there_are_no_others(self):
        found = {name for name, one in vars(errors).items() if isinstance(one, type)}
        self.assertEqual(found, {"SignError", *WITH_TEXT, *WITH_FIELD})

    def test_made_with_a_string(self):
        for name in WITH_TEXT + ["SignError"]:
            made = getattr(errors, name)("some words")
            self.assertIsInstance(made, ValueError)
            self.assertEqual(str(made), "some words")
            self.assertEqual(vars(made), {})

    def test_keep_the_very_value(self):
        for name, field in WITH_FIELD.items():
            for value in VALUES:
                for made in (getattr(errors, name)(value), getattr(errors, name)(**{field: value})):
                    self.assertIs(getattr(made, field), value)
                    self.assertEqual(list(vars(made)), [field])
                    self.assertIsInstance(str(made), str)

    def test_take_just_one_value(self):
        for name in WITH_FIELD:
            with self.assertRaises(TypeError):
                getattr(errors, name)()
            with self.assertRaises(TypeError):
                getattr(errors, name)(1, 2)

    def test_are_caught_as_sign_errors(self):
        for name, field in WITH_FIELD.items():
            with self.assertRaises(errors.SignError):
                raise getattr(errors, name)((1, 2))


if __name__ == "__main__":
    unittest.main()
