"""The errors of the package. Each keeps what its constructor was given."""


class OldError(ValueError):
    """What all errors of the package are; raised nowhere itself."""


class IsAsked(OldError):
    """Another worker asks this one."""

    def __init__(self, worker):
        self.worker = worker


class IsKept(OldError):
    """A kept claim names this worker."""

    def __init__(self, index):
        self.index = index


class IsSteady(OldError):
    """The worker is steady where it may not be."""

    def __init__(self, worker):
        self.worker = worker


class Last(OldError):
    """The worker is the only one."""

    def __init__(self):
        """Take no arguments, other than ValueError."""


class ManyShown(OldError):
    """A part shows not one worker but many."""

    def __init__(self, many):
        self.many = many


class NoCommand(OldError):
    """There is no such command."""

    def __init__(self):
        """Take no arguments, other than ValueError."""


class NoEnd(OldError):
    """The box is not an end."""

    def __init__(self, box):
        self.box = box


class NoKnot(OldError):
    """The knot cannot be."""

    def __init__(self, knot):
        self.knot = knot


class NoLetter(OldError):
    """The worker has no such letter."""

    def __init__(self, letter):
        self.letter = letter


class NoMoment(OldError):
    """The get with this index has no moment, or the moment no get."""

    def __init__(self, index):
        self.index = index


class NoName(OldError):
    """There is no such name."""

    def __init__(self, name):
        self.name = name


class NoPlace(OldError):
    """The code has no such place."""

    def __init__(self, place):
        self.place = place


class NoRound(OldError):
    """The endless run fails at this index."""

    def __init__(self, index):
        self.index = index


class NoRows(OldError):
    """The rows are those of no part, for this fault."""

    def __init__(self, fault):
        self.fault = fault


class NoState(OldError):
    """The worker has no such state, or cannot come to it."""

    def __init__(self, state):
        self.state = state


class NoText(OldError):
    """The text is bad at this line."""

    def __init__(self, line):
        self.line = line


class NotShown(OldError):
    """The asked worker did not show at this moment."""

    def __init__(self, moment):
        self.moment = moment


class NoWay(OldError):
    """The workers cannot be at this vector."""

    def __init__(self, vector):
        self.vector = vector


class NoWorker(OldError):
    """The net has no such worker."""

    def __init__(self, worker):
        self.worker = worker


class Nothing(OldError):
    """There is nothing to undo or to redo."""

    def __init__(self):
        """Take no arguments, other than ValueError."""


class TooMany(OldError):
    """There are more than so many."""

    def __init__(self, most):
        self.most = most


class Unlike(OldError):
    """What should be of one form is not."""

    def __init__(self):
        """Take no arguments, other than ValueError."""


class Wrong(OldError):
    """The argument at this place is not as described."""

    def __init__(self, place):
        self.place = place
