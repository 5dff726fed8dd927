"""Codes: the steps by lots, the places, and codes that are made of them."""

from oldletters.errors import NoPlace
from oldletters.forms import is_index


def full_lots(many):
    """Return the lots of all letters; many has the number of letters of each worker."""
    return tuple([tuple(range(letters)) for letters in many])


def results_of(code, lots):
    """Return the ascending list of the states to which a step by the lots comes."""
    states = set()
    waiting = [code]
    while waiting:
        part = waiting.pop()
        if part[0] == "go":
            states.add(part[1])
        else:
            waiting.extend([part[2][letter] for letter in lots[part[1]]])
    return sorted(states)


def traces_of(code, lots):
    """Return a tuple (pairs, state) for each step by the lots, in the order of their answers.

    pairs has a tuple (asked worker, letter) for each get of the step.
    """
    if code[0] == "go":
        return [((), code[1])]
    asked = code[1]
    traces = []
    for letter in lots[asked]:
        for pairs, state in traces_of(code[2][letter], lots):
            traces.append((((asked, letter),) + pairs, state))
    return traces


def steps_of(code, lots):
    """Return the ascending list of the tuples (answers, state) of all steps by the lots."""
    return [(tuple([letter for _, letter in pairs]), state) for pairs, state in traces_of(code, lots)]


def plain_state(code, letters):
    """Return the state to which the step comes whose gets are all answered by these letters."""
    while code[0] == "get":
        code = code[2][letters[code[1]]]
    return code[1]


def parts_of(code, place=()):
    """Return the ascending list of tuples (place, code there), place being where the code stands."""
    parts = [(place, code)]
    if code[0] == "get":
        for letter, below in enumerate(code[2]):
            parts.extend(parts_of(below, place + (letter,)))
    return parts


def depth_of(code):
    """Return the depth of the code."""
    return max([len(place) for place in places_of(code)])


def gets_in(code):
    """Return how many gets are in the code."""
    return len([part for _, part in parts_of(code) if part[0] == "get"])


def asked_by(code):
    """Return the ascending list of the workers that the code asks."""
    return sorted({part[1] for _, part in parts_of(code) if part[0] == "get"})


def told_by(code):
    """Return the ascending list of the states of the goes in the code."""
    return sorted({part[1] for _, part in parts_of(code) if part[0] == "go"})


def places_of(code):
    """Return the ascending list of the places of the code."""
    return [place for place, _ in parts_of(code)]


def code_under(code, place):
    """Return the code at a place; raise NoPlace if place, any value, is none of its places."""
    if not isinstance(place, tuple):
        raise NoPlace(place)
    for letter in place:
        if code[0] != "get" or not is_index(letter, len(code[2])):
            raise NoPlace(place)
        code = code[2][letter]
    return code


def with_code(code, place, other):
    """Return the code with another one at a place; raise NoPlace as code_under does."""
    code_under(code, place)
    return put_under(code, place, other)


def put_under(code, place, other):
    """Return the code with another one at a place that it has."""
    if place == ():
        return other
    _, asked, codes = code
    letter = place[0]
    below = put_under(codes[letter], place[1:], other)
    return ("get", asked, codes[:letter] + (below,) + codes[letter + 1:])


def renumbered(code, table):
    """Return the code that asks table[w] in the place of w."""
    if code[0] == "go":
        return code
    return ("get", table[code[1]], tuple([renumbered(part, table) for part in code[2]]))


def with_states(code, table):
    """Return the code that goes to table[s] in the place of s."""
    if code[0] == "go":
        return ("go", table[code[1]])
    return ("get", code[1], tuple([with_states(part, table) for part in code[2]]))
