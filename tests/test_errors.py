"""The errors of the interface: point 1, and routeweb/errors.py."""

import unittest

from routeweb import errors

FIELDS = {
    "BadGraph": ("index",), "NotGraph": (), "BadNode": (), "BadWeights": ("index",), "TooMany": ("most",),
    "NotText": (), "InvalidText": ("line", "word"), "BadAlgebra": ("index",), "NotAlgebra": (),
    "BadElement": (), "BadWord": ("index",), "BadUnion": (),
    "BadNetwork": ("index",), "NotNetwork": (), "BadRoute": (), "BadState": ("index",), "NotSettled": (),
    "BadSchedule": ("index",), "BadChoices": ("node", "index"), "NotChoices": (), "HasWheel": (),
    "BadTrade": ("index",), "NotTrade": (),
    "BadTree": ("index",), "BadRounds": ("index",), "BadRules": ("index",), "BadBits": (), "BadRecord": (),
    "NotPolicy": (), "BadCosts": ("index",), "BadNumber": (), "NoLink": (), "BadStackRules": ("index",),
    "BadStack": (), "BadRun": ("index",), "BadPath": (), "BadSegments": ("index",), "BadDemands": ("index",),
    "NothingToUndo": (), "NothingToRedo": (),
}


class ErrorsTest(unittest.TestCase):
    def test_base(self):
        self.assertEqual(errors.RouteError.__bases__, (ValueError,))

    def test_all_are_direct_subclasses(self):
        for name in FIELDS:
            self.assertEqual(getattr(errors, name).__bases__, (errors.RouteError,), name)

    def test_no_further_errors(self):
        found = [name for name, value in vars(errors).items() if isinstance(value, type)]
        self.assertEqual(sorted(found), sorted([*FIELDS, "RouteError"]))

    def test_fields(self):
        for name, fields in FIELDS.items():
            given = tuple(range(7, 7 + len(fields)))
            error = getattr(errors, name)(*given)
            self.assertEqual(vars(error), dict(zip(fields, given)), name)

    def test_fields_may_be_none(self):
        self.assertIsNone(errors.BadGraph(None).index)
        error = errors.BadChoices(None, None)
        self.assertEqual((error.node, error.index), (None, None))


if __name__ == "__main__":
    unittest.main()
