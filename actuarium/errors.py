"""All errors of the package."""


class LifeError(ValueError):
    """The base class of all errors of the package."""


class BadRate(LifeError):
    """A value that is not an interest rate."""


class BadPayments(LifeError):
    """A value that is not a tuple of payments."""


class BadTime(LifeError):
    """A value that is not an integer between the bounds of a time."""


class BadLives(LifeError):
    """A value that is not a life table."""


class BadAge(LifeError):
    """A value that is not an age of the life table."""


class BadRates(LifeError):
    """A value that is not a tuple of rates; the index is that of its first bad thing, None if there is none."""

    def __init__(self, index):
        super().__init__(f"not rates, bad at index {index}")
        self.index = index


class NoYield(LifeError):
    """Payments that do not have the yield that is asked for."""


class BadAmount(LifeError):
    """A value that is not an allowed amount."""


class NotPlain(LifeError):
    """Payments of which one is negative or all are 0."""


class BadPolicy(LifeError):
    """A value that is not a tuple of the parts of a policy."""


class BadPremium(LifeError):
    """A value that is not an allowed premium."""


class NoPremium(LifeError):
    """A policy for which no premium can be told."""


class BadLapses(LifeError):
    """A value that is not a tuple of lapses."""


class BadGiven(LifeError):
    """A value that is not a tuple of what is given at lapses."""


class BadChance(LifeError):
    """A value that is not an allowed chance."""


class BadModel(LifeError):
    """A value that is not a model; the place is the name of its first bad part."""

    def __init__(self, place):
        super().__init__(f"this part of the model is not allowed: {place}")
        self.place = place


class BadState(LifeError):
    """A value that is not a state of the model."""


class BadCompanions(LifeError):
    """A value that is not a tuple of companions; the index is that of its first bad thing, None if there is none."""

    def __init__(self, index):
        super().__init__(f"not companions, bad at index {index}")
        self.index = index


class BadAmounts(LifeError):
    """A value that is not an allowed tuple of amounts."""


class BadClaims(LifeError):
    """A value that is not a tuple of claims."""


class BadCover(LifeError):
    """A value that is not a cover for the claims."""


class NoGain(LifeError):
    """Claims whose mean is not less than 1."""


class BadTriangle(LifeError):
    """A value that is not a triangle of claims; the index is that of its first bad thing, None if there is none."""

    def __init__(self, index):
        super().__init__(f"not a triangle, bad at index {index}")
        self.index = index


class BadMarket(LifeError):
    """A value that is not a market; the index is that of its first bad thing, None if there is none."""

    def __init__(self, index):
        super().__init__(f"not a market, bad at index {index}")
        self.index = index


class FreeLunch(LifeError):
    """A market in which there is a free lunch."""


class BadPrior(LifeError):
    """A value that is not a prior; the index is that of its first bad thing, None if there is none."""

    def __init__(self, index):
        super().__init__(f"not a prior, bad at index {index}")
        self.index = index


class BadSeen(LifeError):
    """A value that is not a tuple of seen claims."""


class NeverSeen(LifeError):
    """Claims that no kind of the prior can have."""


class BadRecords(LifeError):
    """A value that is not a tuple of records; the index is that of its first bad thing, None if there is none."""

    def __init__(self, index):
        super().__init__(f"not records, bad at index {index}")
        self.index = index


class BadOffers(LifeError):
    """A value that is not a tuple of offers for the model."""


class BadOutcomes(LifeError):
    """A value that is not a tuple of outcomes; the index is that of its first bad thing, None if there is none."""

    def __init__(self, index):
        super().__init__(f"not outcomes, bad at index {index}")
        self.index = index


class BadMembers(LifeError):
    """A value that is not an allowed group of members."""


class BadFacts(LifeError):
    """A value that is not a tuple of facts; the index is that of its first bad thing, None if there is none."""

    def __init__(self, index):
        super().__init__(f"not facts, bad at index {index}")
        self.index = index


class BadScale(LifeError):
    """A value that is not a scale."""


class NotWhole(LifeError):
    """A scale on which not every class can be reached from every class."""


class BadCurve(LifeError):
    """A value that is not a curve; the index is that of its first bad thing, None if there is none."""

    def __init__(self, index):
        super().__init__(f"not a curve, bad at index {index}")
        self.index = index


class BadName(LifeError):
    """A value that is not an allowed name."""


class NoName(LifeError):
    """A name under which nothing is stored."""


class NothingToUndo(LifeError):
    """A ledger in which there is nothing to take back."""


class BadWanted(LifeError):
    """A value that is not a dict of wanted premiums."""


class NotText(LifeError):
    """A value that is not a string."""


class InvalidText(LifeError):
    """A text that does not name a life table; the place is an index of the text."""

    def __init__(self, place):
        super().__init__(f"the text is not allowed from this index on: {place}")
        self.place = place


class TooMany(LifeError):
    """An answer that would be greater or longer than the most that is allowed."""

    def __init__(self, most):
        super().__init__(f"more than the most that is allowed: {most}")
        self.most = most
