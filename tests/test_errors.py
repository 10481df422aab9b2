"""Point 1 and the interface of errors.py: all error classes and their fields."""

import unittest

from actuarium import errors
from tests.support import Checks

PLAIN = """BadRate BadPayments BadTime BadLives BadAge NoYield BadAmount NotPlain BadPolicy BadPremium NoPremium BadLapses
BadGiven BadChance BadState BadAmounts BadClaims BadCover NoGain FreeLunch BadSeen NeverSeen BadOffers BadMembers
BadScale NotWhole BadName NoName NothingToUndo BadWanted NotText""".split()
FIELDS = {
    "index": "BadRates BadCompanions BadTriangle BadMarket BadPrior BadRecords BadOutcomes BadFacts BadCurve".split(),
    "place": ["BadModel", "InvalidText"],
    "most": ["TooMany"],
}


class ErrorsTest(Checks, unittest.TestCase):
    def test_base_is_a_value_error(self):
        self.assertEqual(errors.LifeError.__bases__, (ValueError,))

    def test_all_are_direct_subclasses(self):
        for name in PLAIN + [name for names in FIELDS.values() for name in names]:
            self.assertEqual(getattr(errors, name).__bases__, (errors.LifeError,), name)

    def test_there_are_no_others(self):
        listed = set(PLAIN) | {name for names in FIELDS.values() for name in names} | {"LifeError"}
        self.assertEqual({name for name in vars(errors) if not name.startswith("_")}, listed)
        self.assertEqual(len(listed), 44)

    def test_plain_ones_take_a_message(self):
        for name in PLAIN:
            self.assertEqual(str(getattr(errors, name)("why")), "why")
            self.assertEqual(vars(getattr(errors, name)("why")), {})

    def test_fields_are_set(self):
        for field, names in FIELDS.items():
            for name in names:
                for value in (0, 17, None, "staying"):
                    made = getattr(errors, name)(value)
                    self.assertEqual(vars(made), {field: value})
                    self.assertTrue(str(made))


if __name__ == "__main__":
    unittest.main()
