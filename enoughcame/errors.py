"""The errors of the package. Each keeps the value that it is created with."""


class BadText(ValueError):
    """No company, or no people, have this text."""

    def __init__(self, text):
        self.text = text


class BadLine(ValueError):
    """The line with this number is not written as a sheet's line."""

    def __init__(self, number):
        self.number = number


class Contradiction(ValueError):
    """Reports contradict each other, as this evidence shows."""

    def __init__(self, evidence):
        self.evidence = evidence


class Stuck(ValueError):
    """There is no order, because these people never come."""

    def __init__(self, people):
        self.people = people


class Misfit(ValueError):
    """The one at this place cannot come after the people before."""

    def __init__(self, place):
        self.place = place


class NoInvitation(ValueError):
    """These people never come, although others were invited."""

    def __init__(self, people):
        self.people = people


class NoPerson(LookupError):
    """The company has no such person."""

    def __init__(self, person):
        self.person = person


class NoPlace(LookupError):
    """No exchange can be made at such a place."""

    def __init__(self, place):
        self.place = place


class NoNumber(LookupError):
    """No order has this number."""

    def __init__(self, number):
        self.number = number


class NoOperation(LookupError):
    """There are not so many operations in effect."""

    def __init__(self, many):
        self.many = many


class Blocked(RuntimeError):
    """These two neighbours cannot be exchanged."""

    def __init__(self, pair):
        self.pair = pair


class Early(RuntimeError):
    """This person cannot come yet."""

    def __init__(self, person):
        self.person = person


class Here(RuntimeError):
    """This person has come already."""

    def __init__(self, person):
        self.person = person


class TooMany(OverflowError):
    """There are more people or orders than the limit allows."""

    def __init__(self, many):
        self.many = many


class Full(OverflowError):
    """A gathering of so many people takes no further one."""

    def __init__(self, many):
        self.many = many
