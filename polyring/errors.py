"""The refusals: one class for each, so that an asker can tell them apart by name alone."""


# Any refusal.
class AlgebraError(ValueError):
    pass


# Neither 0 nor a prime from 2 to 997 where a ring is asked for.
class NoRing(AlgebraError):
    pass


# No prime from 2 to 997 where a prime is asked for.
class NoPrime(AlgebraError):
    pass


# No number of the ring makes 1 with this one.
class NoInverse(AlgebraError):
    pass


# What is asked for does not come out whole.
class NotWhole(AlgebraError):
    pass


# No count of unknowns from 1 to 4.
class NoUnknowns(AlgebraError):
    pass


# Something among the pairs of a sum to be made is no term.
class NoTerm(AlgebraError):
    pass


# A count outside its bounds.
class NoCount(AlgebraError):
    pass


# Nought has no highest term.
class NoLead(AlgebraError):
    pass


# No order of exponents.
class NoOrder(AlgebraError):
    pass


# A text that is not what is written of a sum.
class NotWritten(AlgebraError):
    pass


# Nought where something is divided by it.
class ByNought(AlgebraError):
    pass


# Two noughts have no greatest common divisor.
class NoMeet(AlgebraError):
    pass


# Nought has no parts.
class NoParts(AlgebraError):
    pass


# A row that is not plain, or of no power from 1 on.
class NotPlain(AlgebraError):
    pass


# An empty list of sums.
class NoSums(AlgebraError):
    pass
