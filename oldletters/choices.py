"""Ways to choose members of lists."""

from itertools import combinations


def all_choices(rows):
    """Return, in order, all tuples with one member of each of the rows."""
    choices = [()]
    for row in rows:
        choices = [choice + (member,) for choice in choices for member in row]
    return choices


def all_subsets(members):
    """Return all tuples of some of the members, in their order, the smaller ones first."""
    subsets = []
    for size in range(len(members) + 1):
        subsets.extend(list(combinations(members, size)))
    return subsets


def has_all(some, members):
    """Tell whether each of the members is in some."""
    return all([member in some for member in members])


def least_subsets(members, is_right):
    """Return the ascending list of the right tuples of members of which no smaller part is right."""
    found = []
    for some in all_subsets(members):
        if not any([has_all(some, small) for small in found]) and is_right(some):
            found.append(some)
    return sorted(found)
