"""Runs of nets, deed by deed [5], [40]."""

from oldletters.codes import traces_of
from oldletters.errors import IsSteady, NoMoment, NoState, NotShown, Nothing, OldError, Wrong
from oldletters.forms import are_integers, is_integer, is_net, is_tuple_of
from oldletters.nets import check_worker


def check_integers(things):
    """Raise Wrong with the index of the first of the things that is no integer."""
    for index, thing in enumerate(things):
        if not is_integer(thing):
            raise Wrong(index)


def is_any_deed(thing):
    """Tell whether thing is a deed, with any integers."""
    if is_tuple_of(thing, 2):
        return thing[0] == "fall" and is_integer(thing[1])
    return is_tuple_of(thing, 3) and thing[0] == "step" and is_integer(thing[1]) and are_integers(thing[2])


class Run:
    """A run of a net: the deeds so far, and what the workers showed by them."""

    def __init__(self, net):
        if not is_net(net):
            raise Wrong(0)
        self._net = net
        self._deeds = []
        # The states of the worker of each deed before and behind it, and the state where each worker is now.
        self._before = []
        self._come = []
        self._where = [0 for _ in net[0]]
        # For each worker the moments at which it showed each letter.
        self._moments = [{shown[0]: [0]} for _, shown, _ in net[0]]

    def __eq__(self, other):
        return isinstance(other, Run) and self._net == other._net and self._deeds == other._deeds

    def step(self, worker, moments):
        """Do a step, its gets answered by what was shown at these moments, and return the state come to."""
        check_integers([worker])
        if not are_integers(moments):
            raise Wrong(1)
        check_worker(self._net, worker)
        state = self._state_by(self._code_now(worker), moments)
        self._note(("step", worker, moments), state)
        return state

    def fall(self, worker):
        """Let a worker fall."""
        check_integers([worker])
        check_worker(self._net, worker)
        if worker in self._net[1]:
            raise IsSteady(worker)
        self._note(("fall", worker), 0)

    def do(self, deed):
        """Do a deed and return the state at which its worker then is."""
        if not is_any_deed(deed):
            raise Wrong(0)
        if deed[0] == "step":
            return self.step(deed[1], deed[2])
        self.fall(deed[1])
        return 0

    def go_to(self, worker, state):
        """Do the step with the least answers that comes to the state, by the latest letters; return the deed."""
        check_integers([worker, state])
        check_worker(self._net, worker)
        for pairs, come in traces_of(self._code_now(worker), self.lots()):
            if come == state:
                deed = ("step", worker, tuple([self.latest(asked, letter) for asked, letter in pairs]))
                self._note(deed, state)
                return deed
        raise NoState(state)

    def undo(self):
        """Take the last deed back and return it."""
        if not self._deeds:
            raise Nothing()
        deed = self._deeds.pop()
        worker = deed[1]
        letter = self._net[0][worker][1][self._come.pop()]
        self._where[worker] = self._before.pop()
        moments = self._moments[worker]
        moments[letter].pop()
        if not moments[letter]:
            moments.pop(letter)
        return deed

    def net(self):
        """Return the net."""
        return self._net

    def now(self):
        """Return the last moment."""
        return len(self._deeds)

    def deeds(self):
        """Return the list of the deeds."""
        return list(self._deeds)

    def at(self):
        """Return the vector of the states where the workers are."""
        return tuple(self._where)

    def lots(self):
        """Return the lots of all letters shown so far."""
        return tuple([tuple(sorted(moments)) for moments in self._moments])

    def shown(self, worker):
        """Return the ascending list of the tuples (moment, letter) of the showings of a worker."""
        check_integers([worker])
        check_worker(self._net, worker)
        moments = self._moments[worker]
        return sorted([(moment, letter) for letter in moments for moment in moments[letter]])

    def latest(self, worker, letter):
        """Return the last moment at which a worker showed the letter, or None."""
        check_integers([worker, letter])
        check_worker(self._net, worker)
        moments = self._moments[worker].get(letter, [])
        return moments[-1] if moments else None

    def can_come(self, worker):
        """Return the ascending list of the states to which a worker can step by lots()."""
        check_integers([worker])
        check_worker(self._net, worker)
        return sorted({state for _, state in traces_of(self._code_now(worker), self.lots())})

    def copied(self):
        """Return another run with the same net and deeds."""
        return run_with(self._net, self._deeds)

    def _code_now(self, worker):
        """Return the code of the state where a worker is."""
        return self._net[0][worker][2][self._where[worker]]

    def _note(self, deed, state):
        """Put a deed down, and the state to which its worker came."""
        worker = deed[1]
        self._deeds.append(deed)
        self._before.append(self._where[worker])
        self._come.append(state)
        self._where[worker] = state
        self._moments[worker].setdefault(self._net[0][worker][1][state], []).append(len(self._deeds))

    def _state_by(self, code, moments):
        """Return the state to which a code comes by what was shown at these moments."""
        index = 0
        while code[0] == "get":
            if index >= len(moments):
                raise NoMoment(index)
            code = code[2][self._letter_at(code[1], moments[index])]
            index += 1
        if index < len(moments):
            raise NoMoment(index)
        return code[1]

    def _letter_at(self, worker, moment):
        """Return the letter that a worker showed at a moment."""
        letters = self._net[0][worker][1]
        if moment == 0:
            return letters[0]
        if moment < 0 or moment > len(self._deeds) or self._deeds[moment - 1][1] != worker:
            raise NotShown(moment)
        return letters[self._come[moment - 1]]


def run_with(net, deeds):
    """Return the run in which these deeds have been done; raise the error of the first that cannot be done."""
    run = Run(net)
    for deed in deeds:
        run.do(deed)
    return run


def first_fault(net, deeds):
    """Return the index of the first deed that cannot be done, or None."""
    run = Run(net)
    for index, deed in enumerate(deeds):
        try:
            run.do(deed)
        except OldError:
            return index
    return None


def vectors_along(net, deeds):
    """Return the list of the vectors at moment 0 and behind each deed of a run."""
    run = Run(net)
    vectors = [run.at()]
    for deed in deeds:
        run.do(deed)
        vectors.append(run.at())
    return vectors
