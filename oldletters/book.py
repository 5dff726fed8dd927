"""A net that is changed deed by deed, and claims of it that are kept [76]."""

from oldletters.claims import all_holding
from oldletters.errors import IsKept, Nothing, TooMany, Wrong
from oldletters.forms import is_claim, is_code, is_index, is_net
from oldletters.nets import with_code_at, with_letter_at, without_worker

MOST_WORKERS = 5
MOST_CLAIMS = 6


def is_named(claim, worker):
    """Tell whether the claim names the worker."""
    if claim[0] == "again":
        return claim[1] == worker
    return any([is_named(part, worker) for part in claim[1:]])


class Book:
    """A net, the kept claims of it, and the deeds that can be undone and done again.

    What the book holds is a tuple (net, kept claims, whether each of them holds).
    """

    def __init__(self, net):
        if not is_net(net):
            raise Wrong(0)
        self._held = (net, (), ())
        # Tuples (deed, what the book held before it, what it held behind it).
        self._done = []
        self._undone = []

    def change(self, worker, state, code):
        """Give a worker another code at a state; return the indexes of the claims that hold no more."""
        self._check_state(worker, state)
        net = self._held[0]
        if not is_code(net, worker, code):
            raise Wrong(2)
        return self._do(("change", worker, state, code), self._with_net(with_code_at(net, worker, state, code)))

    def show(self, worker, state, letter):
        """Let a worker show another letter at a state; return the indexes of the claims that hold no more."""
        self._check_state(worker, state)
        net = self._held[0]
        if not is_index(letter, net[0][worker][0]):
            raise Wrong(2)
        return self._do(("show", worker, state, letter), self._with_net(with_letter_at(net, worker, state, letter)))

    def put(self, worker):
        """Add a worker behind all others; return []."""
        (workers, steady), claims, holding = self._held
        net = (workers + (worker,), steady)
        if not is_net(net):
            raise Wrong(0)
        if len(workers) >= MOST_WORKERS:
            raise TooMany(MOST_WORKERS)
        # The others do not ask it, and it always has some entry beside theirs, so that no claim is touched.
        return self._do(("put", worker), (net, claims, holding))

    def take(self):
        """Take out the last worker; return []."""
        net, claims, holding = self._held
        worker = len(net[0]) - 1
        less = without_worker(net, worker)
        for index, claim in enumerate(claims):
            if is_named(claim, worker):
                raise IsKept(index)
        return self._do(("take",), (less, claims, holding))

    def keep(self, claim):
        """Keep a claim behind the others; return []."""
        net, claims, holding = self._held
        if not is_claim(net, claim):
            raise Wrong(0)
        if len(claims) >= MOST_CLAIMS:
            raise TooMany(MOST_CLAIMS)
        return self._do(("keep", claim), (net, claims + (claim,), holding + all_holding(net, (claim,))))

    def drop(self, index):
        """Drop a kept claim; return []."""
        net, claims, holding = self._held
        if not is_index(index, len(claims)):
            raise Wrong(0)
        rest = (net, claims[:index] + claims[index + 1:], holding[:index] + holding[index + 1:])
        return self._do(("drop", index), rest)

    def undo(self):
        """Undo the last deed; return the indexes of the claims that hold no more."""
        if not self._done:
            raise Nothing()
        row = self._done.pop()
        self._undone.append(row)
        return self._go_to(row[1])

    def redo(self):
        """Do again the deed that was undone last; return the indexes of the claims that hold no more."""
        if not self._undone:
            raise Nothing()
        row = self._undone.pop()
        self._done.append(row)
        return self._go_to(row[2])

    def net(self):
        """Return the net."""
        return self._held[0]

    def claims(self):
        """Return the list of the kept claims."""
        return list(self._held[1])

    def holding(self):
        """Return a list that tells for each kept claim whether it holds."""
        return list(self._held[2])

    def deeds(self):
        """Return the list of the deeds that are done and not undone."""
        return [deed for deed, _, _ in self._done]

    def undone(self):
        """Return how many deeds redo can do."""
        return len(self._undone)

    def _check_state(self, worker, state):
        """Raise Wrong if worker or state, any values, are no worker and no state of it."""
        workers = self._held[0][0]
        if not is_index(worker, len(workers)):
            raise Wrong(0)
        if not is_index(state, len(workers[worker][1])):
            raise Wrong(1)

    def _with_net(self, net):
        """Return what the book holds if its net is another one with the same workers and states."""
        before, claims, holding = self._held
        return (net, claims, holding if net == before else all_holding(net, claims))

    def _do(self, deed, held):
        """Put a deed down by which the book comes to hold this; return what _go_to returns."""
        self._done.append((deed, self._held, held))
        self._undone = []
        return self._go_to(held)

    def _go_to(self, held):
        """Hold this from now on; return the indexes of the claims that held and do not hold any more."""
        before, _, held_before = self._held
        self._held = held
        net, _, holding = held
        if net == before:
            return []
        return [index for index, (was, now) in enumerate(zip(held_before, holding)) if was and not now]
