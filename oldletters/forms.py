"""Tells of any value whether it is what a name says, by its form alone."""

ROADS = ("lossy", "just")


def is_integer(thing):
    """Tell whether thing is an integer; truths are none."""
    return isinstance(thing, int) and not isinstance(thing, bool)


def is_road(thing):
    """Tell whether thing is a road."""
    return isinstance(thing, str) and thing in ROADS


def is_index(thing, many):
    """Tell whether thing is an integer from 0 to many - 1."""
    return is_integer(thing) and 0 <= thing < many


def is_tuple_of(thing, many):
    """Tell whether thing is a tuple of so many members."""
    return isinstance(thing, tuple) and len(thing) == many


def are_integers(thing):
    """Tell whether thing is a tuple of integers."""
    return isinstance(thing, tuple) and all([is_integer(part) for part in thing])


def are_counts(thing, least):
    """Tell whether thing is a tuple of integers from least on."""
    return are_integers(thing) and all([part >= least for part in thing])


def is_ascending(thing, many):
    """Tell whether thing is an ascending tuple, perhaps empty, of integers from 0 to many - 1."""
    if not are_counts(thing, 0):
        return False
    return all([part < many for part in thing]) and all([low < high for low, high in zip(thing, thing[1:])])


def is_choice(thing, many):
    """Tell whether thing is an ascending tuple of at least one integer from 0 to many - 1."""
    return is_ascending(thing, many) and len(thing) > 0


def has_states(thing):
    """Tell whether thing is a worker, but for its codes."""
    if not is_tuple_of(thing, 3) or not is_integer(thing[0]) or not are_counts(thing[1], 0):
        return False
    letters, shown, codes = thing
    return len(shown) > 0 and all([letter < letters for letter in shown]) and is_tuple_of(codes, len(shown))


def is_code_for(thing, states, many):
    """Tell whether thing is a code for so many states; many has the number of letters of each worker."""
    if is_tuple_of(thing, 2):
        return thing[0] == "go" and is_index(thing[1], states)
    if not is_tuple_of(thing, 3) or thing[0] != "get" or not is_index(thing[1], len(many)):
        return False
    asked, codes = thing[1:]
    return is_tuple_of(codes, many[asked]) and all([is_code_for(code, states, many) for code in codes])


def are_workers(thing, foreign):
    """Tell whether thing is a tuple of at least one worker; indexes below len(foreign) are foreign ones."""
    if not isinstance(thing, tuple) or len(thing) == 0:
        return False
    if not all([has_states(worker) for worker in thing]):
        return False
    many = foreign + tuple([letters for letters, _, _ in thing])
    return all([is_code_for(code, len(shown), many) for _, shown, codes in thing for code in codes])


def is_net(thing):
    """Tell whether thing is a net."""
    return is_tuple_of(thing, 2) and are_workers(thing[0], ()) and is_ascending(thing[1], len(thing[0]))


def is_part(thing):
    """Tell whether thing is a part."""
    if not is_tuple_of(thing, 3) or not are_counts(thing[0], 1):
        return False
    foreign, workers, shown = thing
    return are_workers(workers, foreign) and is_choice(shown, len(workers))


def is_code(net, worker, thing):
    """Tell whether thing is a code of this worker of the net."""
    return is_code_for(thing, len(net[0][worker][1]), [letters for letters, _, _ in net[0]])


def is_lots(net, thing):
    """Tell whether thing is lots of the net."""
    if not is_tuple_of(thing, len(net[0])):
        return False
    return all([is_choice(entry, letters) for entry, (letters, _, _) in zip(thing, net[0])])


def is_box(net, thing):
    """Tell whether thing is a box of the net."""
    if not is_tuple_of(thing, len(net[0])):
        return False
    return all([is_choice(entry, len(shown)) for entry, (_, shown, _) in zip(thing, net[0])])


def is_vector(net, thing):
    """Tell whether thing is a vector of the net."""
    if not is_tuple_of(thing, len(net[0])):
        return False
    return all([is_index(state, len(shown)) for state, (_, shown, _) in zip(thing, net[0])])


def is_deed(net, thing):
    """Tell whether thing is one deed of the net."""
    if not isinstance(thing, tuple) or len(thing) < 2 or not is_index(thing[1], len(net[0])):
        return False
    if len(thing) == 2:
        return thing[0] == "fall" and thing[1] not in net[1]
    return len(thing) == 3 and thing[0] == "step" and are_counts(thing[2], 0)


def is_deeds(net, thing):
    """Tell whether thing is a list of deeds of the net."""
    return isinstance(thing, list) and all([is_deed(net, deed) for deed in thing])


def is_round_step(net, thing):
    """Tell whether thing is one round step of the net."""
    return is_tuple_of(thing, 2) and is_index(thing[0], len(net[0])) and are_counts(thing[1], 0)


def is_endless(net, thing):
    """Tell whether thing is a tuple (way, round) of the net."""
    if not is_tuple_of(thing, 2) or not is_deeds(net, thing[0]):
        return False
    steps = thing[1]
    return isinstance(steps, list) and len(steps) > 0 and all([is_round_step(net, step) for step in steps])


def is_claim(net, thing):
    """Tell whether thing is a claim of the net."""
    if is_tuple_of(thing, 2):
        return thing[0] == "not" and is_claim(net, thing[1])
    if not is_tuple_of(thing, 3):
        return False
    word, one, other = thing
    if word == "again":
        return is_index(one, len(net[0])) and is_choice(other, len(net[0][one][1]))
    return (word == "and" or word == "or") and is_claim(net, one) and is_claim(net, other)


def is_sorts(net, thing):
    """Tell whether thing is sorts of the net."""
    if not is_tuple_of(thing, 3) or not all([is_ascending(workers, len(net[0])) for workers in thing]):
        return False
    flaky, stopped, mad = thing
    together = flaky + stopped + mad
    return len(set(together)) == len(together)
