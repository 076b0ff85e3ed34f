import unittest

from roundcuts import errors
from roundcuts.errors import (
    CutError, NoCorner, NoCut, NoDeed, NoField, NoLine, NoNumber, NoText, NoTurn, NoWeights, Nothing,
)

REFUSALS = (NoField, NoWeights, NoCut, Nothing, NoTurn, NoCorner, NoNumber, NoText, NoLine, NoDeed)


class Refusals(unittest.TestCase):
    def test_cut_error_is_straight_under_value_error(self):
        self.assertEqual(CutError.__bases__, (ValueError,))

    def test_each_is_straight_under_cut_error(self):
        for refusal in REFUSALS:
            self.assertEqual(refusal.__bases__, (CutError,), refusal)

    def test_none_is_under_another(self):
        for one in REFUSALS:
            for other in REFUSALS:
                self.assertEqual(issubclass(one, other), one is other, (one, other))

    def test_each_has_its_own_name(self):
        self.assertEqual(len(set(REFUSALS)), 10)
        for refusal in REFUSALS + (CutError,):
            self.assertIs(getattr(errors, refusal.__name__), refusal)

    def test_each_is_made_with_a_text(self):
        for refusal in REFUSALS + (CutError,):
            self.assertEqual(str(refusal("why not")), "why not")

    def test_each_is_caught_by_its_own_name_and_those_above(self):
        for refusal in REFUSALS:
            for caught in (refusal, CutError, ValueError):
                with self.assertRaises(caught):
                    raise refusal("why not")

    def test_a_plain_value_error_is_no_refusal(self):
        self.assertNotIsInstance(ValueError("x"), CutError)


if __name__ == "__main__":
    unittest.main()
