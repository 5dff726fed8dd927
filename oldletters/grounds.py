"""By which lots a code comes to a state [30]."""

from oldletters.choices import all_choices, all_subsets
from oldletters.codes import asked_by, full_lots, results_of, traces_of
from oldletters.nets import with_member


class SureStates:
    """The states that are sure for grounds of one code.

    A ground is written as entries here: a tuple with the letters of each worker that it has, where the letters
    that all lots have stand too. Lots hold it if its letters are among theirs.
    """

    def __init__(self, code, many):
        self.code = code
        self.many = many
        self.known = {}

    def sure(self, entries):
        """Return the ascending list of the states for which the ground is sure."""
        if entries not in self.known:
            self.known[entries] = self.worked_out(entries)
        return self.known[entries]

    def worked_out(self, entries):
        """Work out what sure returns."""
        if () not in entries:
            return results_of(self.code, entries)
        # More letters come to no fewer states, so that lots with one letter in an open entry decide.
        worker = entries.index(())
        states = self.sure(with_member(entries, worker, (0,)))
        for letter in range(1, self.many[worker]):
            more = self.sure(with_member(entries, worker, (letter,)))
            states = [state for state in states if state in more]
        return states


def given_entries(many, own, asked):
    """Return the entries with the letters that all lots have; () is open. Who is not asked is given letter 0."""
    entries = []
    for worker, letters in enumerate(many):
        if own is not None and own[0] == worker:
            entries.append((own[1],))
        elif letters == 1 or worker not in asked:
            entries.append((0,))
        else:
            entries.append(())
    return tuple(entries)


def free_letters(many, given, asked):
    """Return for each worker the list of its letters that are not given, if it is asked."""
    return [[letter for letter in range(letters) if worker in asked and letter not in given[worker]]
            for worker, letters in enumerate(many)]


def without_letter(entries, pair):
    """Return the entries without the letter of a tuple (worker, letter)."""
    worker, letter = pair
    entry = tuple([one for one in entries[worker] if one != letter])
    return with_member(entries, worker, entry)


def grounds_of(code, many, own):
    """Return a dict: for each state to which the code comes by some lots of many and own its least sure grounds."""
    asked = asked_by(code)
    given = given_entries(many, own, asked)
    free = free_letters(many, given, asked)
    table = SureStates(code, many)
    rows = [all_subsets(letters) for letters in free]
    found = {state: [] for state in results_of(code, full_lots(many))}
    for choice in all_choices(rows):
        entries = tuple([tuple(sorted(one + other)) for one, other in zip(given, choice)])
        ground = tuple([(worker, letter) for worker, letters in enumerate(choice) for letter in letters])
        smaller = [table.sure(without_letter(entries, pair)) for pair in ground]
        for state in table.sure(entries):
            if not any([state in states for states in smaller]):
                found[state].append(ground)
    return {state: sorted(found[state]) for state in found}


def lots_with(pairs, many, own, asked):
    """Return the list of least lots of many and own with the letters of the pairs, one for each choice of the
    letters of the workers in asked that have none else."""
    given = given_entries(many, own, asked)
    entries = []
    for worker, entry in enumerate(given):
        told = [letter for one, letter in pairs if one == worker]
        entries.append(tuple(sorted(set(list(entry) + told))))
    rows = [[one] if one else [(letter,) for letter in range(letters)] for one, letters in zip(entries, many)]
    return all_choices(rows)


def wider_lots(one, other, many, own):
    """Return lots of many and own by which one comes to a state to which other does not, or None."""
    asked = asked_by(other)
    for pairs, state in traces_of(one, full_lots(many)):
        for lots in lots_with(pairs, many, own, asked):
            if state not in results_of(other, lots):
                return lots
    return None


def parting_lots(one, other, many, own):
    """Return lots of many and own by which the codes do not come to the same states, or None."""
    lots = wider_lots(one, other, many, own)
    if lots is None:
        lots = wider_lots(other, one, many, own)
    return lots


def is_alike_code(one, other, many, own):
    """Tell whether the codes come to the same states by each of the lots of many and own."""
    return parting_lots(one, other, many, own) is None


def is_narrower(one, other, many, own):
    """Tell whether by each of the lots of many and own one comes only to states to which other comes."""
    return wider_lots(one, other, many, own) is None


def is_torn(pairs):
    """Tell whether two gets of a step are answered by different letters of one worker."""
    return len(set(pairs)) > len({asked for asked, _ in pairs})


def torn_states(code, lots):
    """Return the ascending list of the states to which torn steps by the lots come, and no others."""
    traces = traces_of(code, lots)
    whole = [state for pairs, state in traces if not is_torn(pairs)]
    return sorted({state for _, state in traces if state not in whole})
