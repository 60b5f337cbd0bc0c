"""The errors of gapstairs: one class for each kind of failure."""


class GapError(ValueError):
    """What all errors of gapstairs are."""

class BadAim(GapError):
    """No aim."""

class BadAlong(GapError):
    """No side across the side."""

class BadBands(GapError):
    """No bands of a ground."""

class BadBlock(GapError):
    """No block, or not one for this drawing."""

class BadBlocks(GapError):
    """No list of at most twelve different blocks."""

class BadBodies(GapError):
    """No list of bodies."""

class BadBody(GapError):
    """No body."""

class BadBook(GapError):
    """No book."""

class BadBy(GapError):
    """No pair to move by, or not a number to move by."""

class BadCalendar(GapError):
    """No calendar."""

class BadCase(GapError):
    """No case."""

class BadCases(GapError):
    """No list of cases."""

class BadCell(GapError):
    """No cell."""

class BadCorner(GapError):
    """No corner."""

class BadCorners(GapError):
    """No list of corners."""

class BadDeed(GapError):
    """No deed."""

class BadDeeds(GapError):
    """No list of deeds."""

class BadDoubt(GapError):
    """No doubt."""

class BadDrawing(GapError):
    """No Drawing."""

class BadEnd(GapError):
    """No place to end at."""

class BadFelt(GapError):
    """Not what can have been felt."""

class BadFirst(GapError):
    """No procedure to begin with."""

class BadFloors(GapError):
    """No floors."""

class BadForest(GapError):
    """No forest of the web."""

class BadForm(GapError):
    """No Form."""

class BadForms(GapError):
    """No list of forms."""

class BadGoal(GapError):
    """No goal."""

class BadGround(GapError):
    """No Ground."""

class BadHigh(GapError):
    """No upper staircase, or not above the lower one."""

class BadHouse(GapError):
    """No House."""

class BadIndex(GapError):
    """No index of a block."""

class BadJourney(GapError):
    """No journey."""

class BadLane(GapError):
    """No lane."""

class BadLeast(GapError):
    """No least body."""

class BadLifts(GapError):
    """No lifts."""

class BadLine(GapError):
    """No line."""

class BadLinks(GapError):
    """No links of a web."""

class BadLot(GapError):
    """No lot."""

class BadLow(GapError):
    """No lower staircase."""

class BadMachine(GapError):
    """No machine."""

class BadMany(GapError):
    """No number for the many."""

class BadMost(GapError):
    """No number for the most."""

class BadMove(GapError):
    """No move."""

class BadNames(GapError):
    """No pair of names."""

class BadNotes(GapError):
    """No notes."""

class BadNumber(GapError):
    """No number, or one out of bounds."""

class BadOrders(GapError):
    """No orders."""

class BadOther(GapError):
    """The other one may not be equal to the one."""

class BadPair(GapError):
    """A block makes no pair with itself."""

class BadPlace(GapError):
    """No place."""

class BadPlaces(GapError):
    """No number of places."""

class BadPlan(GapError):
    """No plan."""

class BadProcedures(GapError):
    """No procedures."""

class BadProgram(GapError):
    """No Program."""

class BadProgramText(GapError):
    """No text of a program; line is how many lines may stand."""

    def __init__(self, line):
        super().__init__(f"no text of a program behind line {line}")
        self.line = line

class BadPromises(GapError):
    """No promises."""

class BadRanks(GapError):
    """No ranks."""

class BadRing(GapError):
    """No ring."""

class BadRow(GapError):
    """No row."""

class BadSecond(GapError):
    """The second one is not of the kind."""

class BadSenses(GapError):
    """No senses."""

class BadSide(GapError):
    """No side."""

class BadSpot(GapError):
    """No spot."""

class BadSpots(GapError):
    """No list of spots."""

class BadStairs(GapError):
    """No staircase."""

class BadStart(GapError):
    """No place to start from."""

class BadText(GapError):
    """No such text; line is how many lines may stand."""

    def __init__(self, line):
        super().__init__(f"no text as asked for behind line {line}")
        self.line = line

class BadTimes(GapError):
    """No number of times."""

class BadWay(GapError):
    """No way."""

class BadWeb(GapError):
    """No Web."""

class BadWord(GapError):
    """No word."""

class BadYard(GapError):
    """No Yard."""

class Broken(GapError):
    """The promise for one and other would be broken for body."""

    def __init__(self, one, other, body):
        super().__init__(f"the promise of {one} and {other} is broken for {body}")
        self.one = one
        self.other = other
        self.body = body

class Circular(GapError):
    """A procedure calls itself in the end."""

class Failed(GapError):
    """A deed failed; at is its index."""

    def __init__(self, at):
        super().__init__(f"failed at {at}")
        self.at = at

class Named(GapError):
    """The word stands already."""

class NoBody(GapError):
    """No body is left."""

class NoCase(GapError):
    """No case is left."""

class NoName(GapError):
    """The word does not stand."""

class NoPromise(GapError):
    """There is no such promise."""

class NotFinite(GapError):
    """A corner is endless."""

class NotFree(GapError):
    """The body does not fit at the spot."""

class NotJoined(GapError):
    """The one does not begin where the other ends."""

class NotKept(GapError):
    """A promise is not kept."""

class NotNear(GapError):
    """The blocks are not near."""

class NotRising(GapError):
    """Some form takes loads away."""

class NotRound(GapError):
    """No round."""

class NotTouched(GapError):
    """No block is touched on the side."""

class NothingDone(GapError):
    """Nothing is done that can be undone."""

class NothingUndone(GapError):
    """Nothing is undone that can be done again."""

class Outdoors(GapError):
    """The spot is outdoors."""

class Promised(GapError):
    """A promise has the word."""

class TooMany(GapError):
    """There would be more than most."""

    def __init__(self, most):
        super().__init__(f"more than {most}")
        self.most = most
