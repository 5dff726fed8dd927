"""Names, and the texts of codes, nets, boxes and claims."""

from oldletters.forms import is_tuple_of

FIRST_SIGNS = "abcdefghijklmnopqrstuvwxyz"
FURTHER_SIGNS = "abcdefghijklmnopqrstuvwxyz0123456789_"


def is_name(thing):
    """Tell whether thing, any value, is a name."""
    if not isinstance(thing, str) or thing == "":
        return False
    return thing[0] in FIRST_SIGNS and all([sign in FURTHER_SIGNS for sign in thing])


def are_different_names(things):
    """Tell whether the members of a list or tuple are names, all different."""
    return all([is_name(thing) for thing in things]) and len(set(things)) == len(things)


def are_so_many_names(thing, many):
    """Tell whether thing is a tuple of so many names, all different."""
    return is_tuple_of(thing, many) and are_different_names(thing)


def is_names(net, thing):
    """Tell whether thing, any value, is names of the net."""
    many = len(net[0])
    if not is_tuple_of(thing, 3) or not are_so_many_names(thing[0], many):
        return False
    if not is_tuple_of(thing[1], many) or not is_tuple_of(thing[2], many):
        return False
    rows = list(zip(net[0], thing[1], thing[2]))
    return all([are_so_many_names(letters, worker[0]) for worker, letters, _ in rows]) and all(
        [are_so_many_names(states, len(worker[1])) for worker, _, states in rows])


def numbered_names(sign, many):
    """Return a tuple of so many names, each the sign and its index."""
    return tuple([f"{sign}{index}" for index in range(many)])


def default_names(net):
    """Return names of the net that count its workers, letters and states."""
    letters = tuple([numbered_names("l", worker[0]) for worker in net[0]])
    states = tuple([numbered_names("s", len(worker[1])) for worker in net[0]])
    return (numbered_names("w", len(net[0])), letters, states)


def headed_lines(head, lines, indent):
    """Return the lines, the first one behind a head that stands so deep."""
    first = " " * indent + f"{head}: {lines[0]}"
    return [first] + lines[1:]


def code_lines(names, worker, code, indent):
    """Return the lines of a code whose first line stands so deep, that one without its blanks."""
    if code[0] == "go":
        return [f"go {names[2][worker][code[1]]}"]
    asked = code[1]
    lines = [f"get {names[0][asked]}"]
    for letter, part in zip(names[1][asked], code[2]):
        below = code_lines(names, worker, part, indent + 2)
        lines.extend(headed_lines(letter, below, indent + 2))
    return lines


def show_code(names, worker, code):
    """Return the text of a code of this worker."""
    return "\n".join(code_lines(names, worker, code, 0))


def worker_lines(names, net, worker):
    """Return the lines that tell the letters of a worker and what it shows at its states."""
    word = "steady" if worker in net[1] else "worker"
    letters = names[1][worker]
    lines = [f"{word} {names[0][worker]}: " + " ".join(letters)]
    for state, letter in zip(names[2][worker], net[0][worker][1]):
        lines.append(f"  {state}: {letters[letter]}")
    return lines


def worker_code_lines(names, net, worker):
    """Return the lines that tell the codes of a worker."""
    lines = [f"code {names[0][worker]}"]
    for state, code in zip(names[2][worker], net[0][worker][2]):
        lines.extend(headed_lines(state, code_lines(names, worker, code, 2), 2))
    return lines


def show_net(names, net):
    """Return the text of the net."""
    workers = range(len(net[0]))
    lines = []
    for worker in workers:
        lines.extend(worker_lines(names, net, worker))
    for worker in workers:
        lines.extend(worker_code_lines(names, net, worker))
    return "\n".join(lines)


def show_box(names, box):
    """Return the text of a box."""
    lines = []
    for name, states, entry in zip(names[0], names[2], box):
        lines.append(f"{name}: " + " ".join([states[state] for state in entry]))
    return "\n".join(lines)


def show_claim(names, claim):
    """Return the text of a claim."""
    if claim[0] == "again":
        _, worker, states = claim
        return f"{names[0][worker]}=" + ",".join([names[2][worker][state] for state in states])
    if claim[0] == "not":
        return "not " + show_claim(names, claim[1])
    word, one, other = claim
    return f"({show_claim(names, one)} {word} {show_claim(names, other)})"
