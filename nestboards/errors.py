"""The errors that the package raises."""


class NestError(ValueError):
    """The base of all errors of this package."""


class InvalidTeam(NestError):
    """A team is no list of levels as the document has them."""


class InvalidWay(NestError):
    """A way is none of the team."""


class InvalidList(NestError):
    """A full list is none of the team."""


class InvalidWorkers(NestError):
    """A list of workers is not ascending or names others than the team's."""


class InvalidJobs(NestError):
    """A list of jobs is not ascending or names others than there are."""


class InvalidPairs(NestError):
    """A list of pairs is not one of unlike workers with jobs."""


class InvalidCounts(NestError):
    """A list of counts is not one of as many integers from 0 on as it may have."""


class InvalidWorker(NestError):
    """A worker is no index of the team."""


class InvalidJob(NestError):
    """A job is not in its bounds."""


class InvalidNumber(NestError):
    """A size or another number is not in its bounds."""


class InvalidIndex(NestError):
    """An index is beyond what is numbered."""


class NoWay(NestError):
    """There is no way of what is asked for."""


class NothingToUndo(NestError):
    """No call is left that could be undone."""


class Refused(NestError):
    """A call does not go with what holds; word tells why."""

    def __init__(self, word):
        NestError.__init__(self, word)
        self.word = word


class InvalidText(NestError):
    """A text cannot be read; place is the number of the word at fault."""

    def __init__(self, place):
        NestError.__init__(self, str(place))
        self.place = place
