"""[4] The five families of refusals."""

import unittest

from stripelay import errors

FAMILIES = {
    "StripeError": (ValueError, {
        "NoStripes": ("number",), "NoThreads": (), "NoManner": (), "TooLong": ("long",),
        "NoText": ("line", "word"), "NoNumber": (), "NoBox": (), "TooMany": (), "NoUndo": (), "NoOrder": (),
    }),
    "SpotError": (IndexError, {"NoSpot": ("spot",), "NoCut": ("first", "last")}),
    "ShadeError": (KeyError, {"NoShade": ("shade",), "NoName": ("name",)}),
    "StepError": (ZeroDivisionError, {"NoStep": ("step",)}),
    "WayError": (LookupError, {"NoWay": ("way",), "NoWeave": ("weave",)}),
}


def members():
    for family, (own, classes) in FAMILIES.items():
        for name, fields in classes.items():
            yield getattr(errors, family), own, getattr(errors, name), fields


class Families(unittest.TestCase):
    def test_each_family_stands_right_under_its_class_of_python(self):
        for family, (own, classes) in FAMILIES.items():
            self.assertEqual(getattr(errors, family).__bases__, (own,))

    def test_each_class_stands_right_under_its_family(self):
        for family, own, refusal, fields in members():
            self.assertEqual(refusal.__bases__, (family,))
            self.assertTrue(issubclass(refusal, own))

    def test_no_class_stands_under_another_family_or_refusal(self):
        listed = [getattr(errors, family) for family in FAMILIES] + [row[2] for row in members()]
        for family, own, refusal, fields in members():
            above = [other for other in listed if issubclass(refusal, other)]
            self.assertEqual(above, [family, refusal])

    def test_no_other_class_is_there(self):
        names = [name for name in vars(errors) if isinstance(vars(errors)[name], type)]
        wanted = list(FAMILIES) + [name for own, classes in FAMILIES.values() for name in classes]
        self.assertEqual(sorted(names), sorted(wanted))

    def test_each_field_is_set_and_is_the_thing(self):
        for family, own, refusal, fields in members():
            things = [["thing", place] for place in range(len(fields))]
            refused = refusal(*things)
            for field, thing in zip(fields, things):
                self.assertIs(getattr(refused, field), thing)

    def test_lookup_error_is_above_spots_and_shades(self):
        for name in ("NoSpot", "NoCut", "NoShade", "NoName", "NoWay", "NoWeave"):
            self.assertTrue(issubclass(getattr(errors, name), LookupError))


if __name__ == "__main__":
    unittest.main()
