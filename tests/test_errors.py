import unittest

from fordbook import errors

NAMES = ["NoBoard", "NoNet", "NoPlace", "NoRoad", "NoTurn", "NoText", "NoRow", "NoName", "NoWindow"]


class TestErrors(unittest.TestCase):

    def caught(self, name, catcher):
        try:
            try:
                raise getattr(errors, name)("refused")
            except catcher:
                return True
        except Exception:
            return False

    def test_each_is_caught_by_its_own_name(self):
        for name in NAMES:
            self.assertTrue(self.caught(name, getattr(errors, name)), name)

    def test_each_is_caught_as_ford_error_and_value_error(self):
        for name in NAMES + ["FordError"]:
            self.assertTrue(self.caught(name, errors.FordError), name)
            self.assertTrue(self.caught(name, ValueError), name)

    def test_none_is_caught_by_another_name(self):
        for name in NAMES + ["FordError"]:
            for other in NAMES:
                if other != name:
                    self.assertFalse(self.caught(name, getattr(errors, other)), (name, other))

    def test_bases_are_as_told(self):
        self.assertEqual(errors.FordError.__bases__, (ValueError,))
        for name in NAMES:
            self.assertEqual(getattr(errors, name).__bases__, (errors.FordError,), name)

    def test_a_value_error_is_no_refusal(self):
        for name in NAMES + ["FordError"]:
            self.assertNotIsInstance(ValueError("other"), getattr(errors, name))


if __name__ == "__main__":
    unittest.main()
