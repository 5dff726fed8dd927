"""One answer for several gets of one worker [31]."""

from oldletters.choices import all_subsets, least_subsets
from oldletters.codes import full_lots, parts_of, results_of
from oldletters.errors import NoPlace, TooMany

MOST_REPEATS = 6


def repeats_of(code):
    """Return the ascending list of the places of all repeats."""
    asked_at = {place: part[1] for place, part in parts_of(code) if part[0] == "get"}
    return [place for place in asked_at
            if asked_at[place] in [asked_at[place[:size]] for size in range(len(place))]]


def shared_code(code, sharing):
    """Return the code in which the repeats at these places are not asked; raise NoPlace."""
    repeats = repeats_of(code)
    for place in sharing:
        if place not in repeats:
            raise NoPlace(place)
    return shared_below(code, sharing, (), {})


def shared_below(code, sharing, place, answers):
    """Return the shared code for one that stands at a place; answers has the last letter of each worker asked."""
    if code[0] == "go":
        return code
    _, asked, codes = code
    if place in sharing:
        letter = answers[asked]
        return shared_below(codes[letter], sharing, place + (letter,), answers)
    shared = [shared_below(part, sharing, place + (letter,), {**answers, asked: letter})
              for letter, part in enumerate(codes)]
    return ("get", asked, tuple(shared))


def few_repeats(code):
    """Return the repeats of the code; raise TooMany if there are more than six."""
    repeats = repeats_of(code)
    if len(repeats) > MOST_REPEATS:
        raise TooMany(MOST_REPEATS)
    return repeats


def sharings_of(code):
    """Return the ascending list of all sharings of the code; raise TooMany."""
    return sorted(all_subsets(few_repeats(code)))


def least_sharings(code, many, unwanted):
    """Return the ascending list of the least sharings that never come to an unwanted state; raise TooMany."""
    repeats = few_repeats(code)
    lots = full_lots(many)
    return least_subsets(repeats, lambda sharing: comes_to_none(shared_code(code, sharing), lots, unwanted))


def comes_to_none(code, lots, unwanted):
    """Tell whether no step by the lots comes to an unwanted state."""
    return not any([state in unwanted for state in results_of(code, lots)])
