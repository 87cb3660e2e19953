import inspect
import unittest

from braemantle import errors
from plans import VAST

FAMILIES = {
    "LandError": ValueError,
    "LookError": LookupError,
    "NameFault": KeyError,
    "NoShare": ZeroDivisionError,
    "NothingLeft": IndexError,
}

MEMBERS = {
    "LandError": {
        "BadSize": ["size"], "BadHeight": ["at", "high"], "Cracked": ["at", "other"], "Twice": ["at"],
        "OtherPlan": [], "BadView": ["wrong"], "TooFew": ["most"], "Lacking": ["at", "other"],
        "BadRest": ["at", "rest"], "BadRate": ["rate"], "NoRoom": ["many"], "NoHalf": ["shape"],
        "BadPage": ["row"], "BadCode": [], "BadLine": ["line"],
    },
    "LookError": {
        "NoPlace": ["at"], "NoCut": ["at"], "NotIn": ["at"], "NotHeld": ["at"], "NoTriangle": ["shape"],
        "NoSpot": ["spot"], "NotCome": ["at"], "NoLand": [],
    },
    "NameFault": {"NoPacket": ["number"], "NoName": ["name"]},
}


def members():
    return [(family, name, values) for family, rows in MEMBERS.items() for name, values in rows.items()]


class ErrorsTest(unittest.TestCase):
    def test_families_stand_straight_under_pythons_own(self):
        for name, base in FAMILIES.items():
            self.assertEqual(getattr(errors, name).__bases__, (base,), name)

    def test_members_stand_straight_under_their_family(self):
        for family, name, _ in members():
            self.assertEqual(getattr(errors, name).__bases__, (getattr(errors, family),), name)

    def test_no_other_class_is_there(self):
        found = {name for name, _ in inspect.getmembers(errors, inspect.isclass)}
        self.assertEqual(found, set(FAMILIES) | {name for _, name, _ in members()})

    def test_values_by_place_and_by_name(self):
        for _, name, values in members():
            kind = getattr(errors, name)
            things = [(VAST, -number) for number, _ in enumerate(values)]
            made = [kind(*things)]
            if values:
                made.append(kind(**dict(zip(values, things))))
            for error in made:
                self.assertEqual(vars(error), dict(zip(values, things)), name)

    def test_those_without_values_take_words(self):
        for name in ("LandError", "LookError", "NameFault", "NoShare", "NothingLeft", "OtherPlan", "BadCode", "NoLand"):
            with self.assertRaises(getattr(errors, name)):
                raise getattr(errors, name)("words")

    def test_no_share_is_of_no_other_family(self):
        self.assertTrue(issubclass(errors.NoShare, ZeroDivisionError))
        self.assertFalse(issubclass(errors.NoShare, (ValueError, LookupError)))

    def test_bad_size_is_no_look_error(self):
        self.assertTrue(issubclass(errors.BadSize, errors.LandError))
        self.assertTrue(issubclass(errors.BadSize, ValueError))
        self.assertFalse(issubclass(errors.BadSize, errors.LookError))


if __name__ == "__main__":
    unittest.main()
