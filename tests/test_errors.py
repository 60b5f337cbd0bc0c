import inspect
import unittest

from gapstairs import errors
from gapstairs.errors import GapError

PLAIN = """BadAim BadAlong BadBands BadBlock BadBlocks BadBodies BadBody BadBook BadBy BadCalendar BadCase
BadCases BadCell BadCorner BadCorners BadDeed BadDeeds BadDoubt BadDrawing BadEnd BadFelt BadFirst BadFloors
BadForest BadForm BadForms BadGoal BadGround BadHigh BadHouse BadIndex BadJourney BadLane BadLeast BadLifts
BadLine BadLinks BadLot BadLow BadMachine BadMany BadMost BadMove BadNames BadNotes BadNumber BadOrders BadOther
BadPair BadPlace BadPlaces BadPlan BadProcedures BadProgram BadPromises BadRanks BadRing BadRow BadSecond
BadSenses BadSide BadSpot BadSpots BadStairs BadStart BadTimes BadWay BadWeb BadWord BadYard Circular Named
NoBody NoCase NoName NoPromise NotFinite NotFree NotJoined NotKept NotNear NotRising NotRound NotTouched
NothingDone NothingUndone Outdoors Promised""".split()

TOLD = {
    "BadProgramText": ["line"], "BadText": ["line"], "Broken": ["one", "other", "body"],
    "Failed": ["at"], "TooMany": ["most"],
}


class Errors(unittest.TestCase):
    def test_all_are_there_and_no_more(self):
        found = [name for name, thing in vars(errors).items() if inspect.isclass(thing)]
        self.assertEqual(sorted(found), sorted(PLAIN + list(TOLD) + ["GapError"]))

    def test_they_are_directly_below_one(self):
        self.assertEqual(GapError.__bases__, (ValueError,))
        for name in PLAIN + list(TOLD):
            self.assertEqual(getattr(errors, name).__bases__, (GapError,), name)

    def test_plain_ones_are_made_of_any_text(self):
        for name in PLAIN + ["GapError"]:
            self.assertEqual(str(getattr(errors, name)("some text")), "some text")

    def test_attributes_by_position_and_by_name(self):
        for name, attributes in TOLD.items():
            kind = getattr(errors, name)
            values = list(range(5, 5 + len(attributes)))
            for made in (kind(*values), kind(**dict(zip(attributes, values)))):
                self.assertEqual([getattr(made, at) for at in attributes], values)

    def test_the_package_defines_nothing(self):
        import gapstairs
        with open(gapstairs.__file__, encoding="utf-8") as f:
            self.assertEqual(f.read().strip(), "")


if __name__ == "__main__":
    unittest.main()
