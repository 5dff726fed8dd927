"""Ways to choose members of lists."""

from itertools import combinations


def all_choices(rows):
    """Return, in order, all tuples with one member of each of the rows."""
    choices = [()]
    for row in rows:
        choices = [choice + (member,) for choice in choices for member in row]
    return choices


def all_subsets(members):
    """Return all tuples of some of the members, in their order, the smaller ones first."""
    subsets = []
    for size in range(len(members) + 1):
        subsets.extend(list(combinations(members, size)))
    return subsets


def has_all(some, members):
    """Tell whether each of the members is in some."""
    return all([member in some for member in members])


def least_subsets(members, is_right):
    """Return the ascending list of the right tuples of members of which no smaller part is right."""
    found = []
    for some in all_subsets(members):
        if not any([has_all(some, small) for small in found]) and is_right(some):
            found.append(some)
    return sorted(found)


def are_more(box, most):
    """Tell whether more than most boxes lie in a box, or lots in lots."""
    many = 1
    for entry in box:
        # Numbers are cut off where they say more already, so that they do not grow without end.
        subsets = 1
        for _ in entry:
            subsets = min(2 * subsets, most + 2)
        many = min(many * (subsets - 1), most + 1)
    return many > most


def boxes_in(box):
    """Return the list of all boxes that lie in a box, or lots in lots."""
    return all_choices([all_subsets(entry)[1:] for entry in box])
