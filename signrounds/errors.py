"""The errors of the package, all of them directly under SignError."""


class SignError(ValueError):
    """Whatever the package refuses."""


class InvalidWeb(SignError):
    """This is no signed web."""


class InvalidTie(SignError):
    """This is no tie of the web."""


class InvalidPlace(SignError):
    """This is no such place, or the other one again."""


class InvalidLot(SignError):
    """This is no such lot."""


class InvalidSign(SignError):
    """This is no sign."""


class InvalidRow(SignError):
    """This is no such row."""


class InvalidRing(SignError):
    """This is no round of the web."""


class InvalidCount(SignError):
    """This is no such number."""


class InvalidTies(SignError):
    """This is no ascending tuple of ties of the web."""


class InvalidRings(SignError):
    """This is no tuple of rounds of the web, or too long a one."""


class InvalidSigns(SignError):
    """This is no tuple of as many signs as are asked for."""


class InvalidWeights(SignError):
    """This is no tuple of a weight for each tie."""


class InvalidThrees(SignError):
    """This is no set of threes."""


class InvalidChoice(SignError):
    """This is no choice of the web."""


class InvalidTable(SignError):
    """This is no such plain table."""


class InvalidWalk(SignError):
    """This is no such walk."""


class InvalidCommand(SignError):
    """This is no command."""


class InvalidPaper(SignError):
    """This is no paper."""


class Refused(SignError):
    """What is asked for does not go with what is there."""


class NothingToUndo(SignError):
    """There is no deed that may be taken back."""


class NoSpan(SignError):
    """No span is open."""


class NotReady(SignError):
    """No live web stands where one must."""


class InvalidText(SignError):
    """This is no such text; index tells how much of it could be the beginning of one."""

    def __init__(self, index):
        super().__init__(f"this text goes wrong at {index}")
        self.index = index


class InvalidDeeds(SignError):
    """The deed at this index cannot be done."""

    def __init__(self, index):
        super().__init__(f"the deeds go wrong at {index}")
        self.index = index


class TooMany(SignError):
    """There are more than count."""

    def __init__(self, count):
        super().__init__(f"there are more than {count}")
        self.count = count


class OverLimit(SignError):
    """The trouble, count, is above the limit."""

    def __init__(self, count):
        super().__init__(f"the trouble {count} is above the limit")
        self.count = count


class NotBalanced(SignError):
    """The web has no camp, as this bad round shows."""

    def __init__(self, ring):
        super().__init__(f"the round {ring} is bad")
        self.ring = ring


class NotAlike(SignError):
    """The webs are not alike; this round is bad in one of them, () if their ties are not the same."""

    def __init__(self, ring):
        super().__init__(f"the webs are not alike, see the round {ring}")
        self.ring = ring


class NotTheta(SignError):
    """No web has such signs, as these three rounds show."""

    def __init__(self, rings):
        super().__init__(f"an odd number of the rounds {rings} is bad")
        self.rings = rings


class NotFree(SignError):
    """The set of ties is not free, as this bind shows."""

    def __init__(self, ties):
        super().__init__(f"the set contains the bind {ties}")
        self.ties = ties


class NotShown(SignError):
    """The paper does not show what it says, as these ties tell."""

    def __init__(self, ties):
        super().__init__(f"the paper is wrong at {ties}")
        self.ties = ties


class NotAllTied(SignError):
    """These two places are not tied."""

    def __init__(self, tie):
        super().__init__(f"not tied: {tie}")
        self.tie = tie


class NotEven(SignError):
    """These four places contain an odd number of the threes."""

    def __init__(self, four):
        super().__init__(f"an odd number of threes within {four}")
        self.four = four


class NotStanding(SignError):
    """The choice does not stand, as this stop shows."""

    def __init__(self, weights):
        super().__init__(f"the choice has the stop {weights}")
        self.weights = weights
