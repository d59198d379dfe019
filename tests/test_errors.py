import unittest

from pricedreels import errors

PLAIN = """BadAt BadBits BadBlock BadBook BadBounds BadChosen BadCut BadDelay BadError BadField BadFrame BadGains
BadGrade BadGuess BadHold BadHurt BadIndex BadKind BadLeast BadLoss BadLosses BadLot BadLots BadMany BadMemory
BadMost BadNumber BadOrder BadOther BadPlace BadPlan BadPlane BadPlanes BadPrice BadRate BadReach BadRectangle
BadReferences BadRoom BadRow BadSet BadShares BadShift BadShows BadSize BadSizes BadSpans BadSpot BadState
BadTelling BadUpper BadVector BadWait BadWanted BadWay BadWish BadWorths NothingDone OtherKinds OtherShapes""".split()

TOLD = {
    "BadCosts": "at", "BadFrames": "at", "BadItem": "at", "BadJobs": "at", "BadRenewals": "at", "BadStore": "at",
    "BadStream": "at", "BadStretch": "at", "BadWeb": "at", "BadHead": "part", "BadReel": "part", "BadShape": "part",
    "BadStock": "part", "BadMode": "mode", "NotNow": "word", "TooMany": "most",
}


class Errors(unittest.TestCase):
    def test_all_are_there_and_no_others(self):
        found = [name for name, value in vars(errors).items() if isinstance(value, type)]
        self.assertEqual(sorted(found), sorted(PLAIN + list(TOLD) + ["ReelError"]))
        self.assertEqual(len(found), 77)

    def test_what_they_derive_from(self):
        self.assertEqual(errors.ReelError.__bases__, (ValueError,))
        for name in PLAIN + list(TOLD):
            self.assertEqual(getattr(errors, name).__bases__, (errors.ReelError,), name)
            self.assertEqual(getattr(errors, name).__module__, "pricedreels.errors", name)

    def test_plain_ones_are_made_of_any_text(self):
        for name in PLAIN + ["ReelError"]:
            made = getattr(errors, name)("any text")
            self.assertEqual(str(made), "any text")
            self.assertIsInstance(made, errors.ReelError)

    def test_attributes_by_position_and_by_name(self):
        for name, attribute in TOLD.items():
            for value in (None, 0, 7, "height", ["left"], ("flat", True)):
                by_position = getattr(errors, name)(value)
                by_name = getattr(errors, name)(**{attribute: value})
                for made in (by_position, by_name):
                    self.assertIs(getattr(made, attribute), value, name)
                    self.assertEqual(list(vars(made)), [attribute])
                    self.assertIsInstance(str(made), str)

    def test_attributes_are_needed(self):
        for name, attribute in TOLD.items():
            with self.assertRaises(TypeError):
                getattr(errors, name)()
            with self.assertRaises(TypeError):
                getattr(errors, name)(**{attribute + "s": 1})


if __name__ == "__main__":
    unittest.main()
