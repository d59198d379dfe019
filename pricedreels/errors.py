"""The errors of the package, those of all its parts."""


class ReelError(ValueError):
    """What is passed, or asked for, is not as the document tells."""


class BadAt(ReelError):
    """No index of the bits."""


class BadBits(ReelError):
    """No bits."""


class BadBlock(ReelError):
    """No block of the shape."""


class BadBook(ReelError):
    """No book of any kind."""


class BadBounds(ReelError):
    """No bounds."""


class BadChosen(ReelError):
    """No choice of items."""


class BadCosts(ReelError):
    """No costs: at is the first row that is none, or None."""

    def __init__(self, at):
        super().__init__(f"no costs: {at}")
        self.at = at


class BadCut(ReelError):
    """No cut."""


class BadDelay(ReelError):
    """No delay."""


class BadError(ReelError):
    """No greatest error."""


class BadField(ReelError):
    """No field of vectors."""


class BadFrame(ReelError):
    """No frame."""


class BadFrames(ReelError):
    """No frames: at is the first one that is no plane, or None."""

    def __init__(self, at):
        super().__init__(f"no frames: {at}")
        self.at = at


class BadGains(ReelError):
    """No gains of a web."""


class BadGrade(ReelError):
    """No grade."""


class BadGuess(ReelError):
    """No guess of the shape."""


class BadHead(ReelError):
    """No head: part is the first part that is wrong, or None."""

    def __init__(self, part):
        super().__init__(f"no head: {part}")
        self.part = part


class BadHold(ReelError):
    """No hold."""


class BadHurt(ReelError):
    """Nothing that can be hurt."""


class BadIndex(ReelError):
    """No index of a piece."""


class BadItem(ReelError):
    """No item: at is the first one that is none, or None."""

    def __init__(self, at):
        super().__init__(f"no item: {at}")
        self.at = at


class BadJobs(ReelError):
    """No jobs: at is the first one that is none, or None."""

    def __init__(self, at):
        super().__init__(f"no jobs: {at}")
        self.at = at


class BadKind(ReelError):
    """No kind."""


class BadLeast(ReelError):
    """No least number."""


class BadLoss(ReelError):
    """No loss."""


class BadLosses(ReelError):
    """No number of losses."""


class BadLot(ReelError):
    """No lot of the reel."""


class BadLots(ReelError):
    """No lots."""


class BadMany(ReelError):
    """No number of things that can be asked for."""


class BadMemory(ReelError):
    """No memory."""


class BadMode(ReelError):
    """No mode that can stand there: mode is what was passed."""

    def __init__(self, mode):
        super().__init__(f"no mode that can stand there: {mode}")
        self.mode = mode


class BadMost(ReelError):
    """No greatest number."""


class BadNumber(ReelError):
    """No number of those that are asked for."""


class BadOrder(ReelError):
    """No order."""


class BadOther(ReelError):
    """No other one that fits."""


class BadPlace(ReelError):
    """No place."""


class BadPlan(ReelError):
    """No plan."""


class BadPlane(ReelError):
    """No plane of the shape."""


class BadPlanes(ReelError):
    """No planes of the shape."""


class BadPrice(ReelError):
    """No price."""


class BadRate(ReelError):
    """No rate."""


class BadReach(ReelError):
    """No reach."""


class BadRectangle(ReelError):
    """No rectangle."""


class BadReel(ReelError):
    """No reel: part is the first part that is wrong, or None."""

    def __init__(self, part):
        super().__init__(f"no reel: {part}")
        self.part = part


class BadReferences(ReelError):
    """No references for the kind."""


class BadRenewals(ReelError):
    """No renewals: at is the first one that is none, or None."""

    def __init__(self, at):
        super().__init__(f"no renewals: {at}")
        self.at = at


class BadRoom(ReelError):
    """No room."""


class BadRow(ReelError):
    """No row."""


class BadSet(ReelError):
    """No set."""


class BadShape(ReelError):
    """No shape: part is the first part that is wrong, or None."""

    def __init__(self, part):
        super().__init__(f"no shape: {part}")
        self.part = part


class BadShares(ReelError):
    """No shares."""


class BadShift(ReelError):
    """No shift."""


class BadShows(ReelError):
    """No shows of the items ahead."""


class BadSize(ReelError):
    """No size."""


class BadSizes(ReelError):
    """No sizes."""


class BadSpans(ReelError):
    """No upper bounds for the lower ones."""


class BadSpot(ReelError):
    """No spot."""


class BadState(ReelError):
    """No state of a reader."""


class BadStock(ReelError):
    """No stock: part is the first part that is wrong, or None."""

    def __init__(self, part):
        super().__init__(f"no stock: {part}")
        self.part = part


class BadStore(ReelError):
    """No store: at is the first plane that is wrong, or None."""

    def __init__(self, at):
        super().__init__(f"no store: {at}")
        self.at = at


class BadStream(ReelError):
    """The bits tell nothing that is asked for: at is the index of the first bit of what is none."""

    def __init__(self, at):
        super().__init__(f"no item at the index: {at}")
        self.at = at


class BadStretch(ReelError):
    """No stretch: at is the first piece that is none, or None."""

    def __init__(self, at):
        super().__init__(f"no stretch: {at}")
        self.at = at


class BadTelling(ReelError):
    """No telling of the head and the shape."""


class BadUpper(ReelError):
    """No bool that tells which end is asked for."""


class BadVector(ReelError):
    """No vector."""


class BadWait(ReelError):
    """No wait."""


class BadWanted(ReelError):
    """No wanted items."""


class BadWay(ReelError):
    """No way of turning."""


class BadWeb(ReelError):
    """No web: at is the first row that is none, or None."""

    def __init__(self, at):
        super().__init__(f"no web: {at}")
        self.at = at


class BadWish(ReelError):
    """No wish."""


class BadWorths(ReelError):
    """No worths."""


class NotNow(ReelError):
    """It cannot be done now: word tells why."""

    def __init__(self, word):
        super().__init__(f"not now: {word}")
        self.word = word


class NothingDone(ReelError):
    """There is no deed to take back."""


class OtherKinds(ReelError):
    """The kinds are not equal."""


class OtherShapes(ReelError):
    """The shapes are not equal."""


class TooMany(ReelError):
    """There is too much to go through: most is how much is allowed."""

    def __init__(self, most):
        super().__init__(f"more than: {most}")
        self.most = most
