"""Greatest ends of nets without steady workers, and trees that show how they are found [10], [47]."""

from oldletters.ends import are_pieces
from oldletters.errors import NoEnd
from oldletters.forms import are_counts, is_index, is_tuple_of
from oldletters.nets import check_no_steady, lies_in, shown_lots, with_member
from oldletters.pieces import edges_of, is_one_piece, is_round, levels_by, pieces_of
from oldletters.tables import table_of


def split_boxes(net, box, parts_by, most):
    """Return the boxes that come of a box by splitting entries until none is split any more.

    parts_by(worker, entry, lots) returns the entries that take the place of an entry by the lots shown in its box.
    If most is not None, no more than most + 1 boxes are returned.
    """
    found = []
    waiting = [box]
    while waiting and (most is None or len(found) <= most):
        one = waiting.pop()
        parts = first_split(net, one, parts_by)
        if parts is None:
            found.append(one)
        else:
            waiting.extend(parts)
    return found


def first_split(net, box, parts_by):
    """Return the list of the boxes that take the place of a box, or None if no entry is split."""
    lots = shown_lots(net, box)
    for worker, entry in enumerate(box):
        parts = parts_by(worker, entry, lots)
        if parts != [entry]:
            return [with_member(box, worker, part) for part in parts]
    return None


def held_up_within(net, box):
    """Return the ascending list of the greatest boxes that lie in the box and are held up; of any net."""
    return sorted(split_boxes(net, box, lambda worker, entry, lots: pieces_of(net, worker, entry, lots), None))


def tree_of(net, box):
    """Return a tree of the box; raise IsSteady."""
    check_no_steady(net)
    return tree_below(net, box)


def tree_below(net, box):
    """Return a tree of the box."""
    lots = shown_lots(net, box)
    for worker, entry in enumerate(box):
        edges = edges_of(net, worker, entry, lots)
        if not is_one_piece(edges):
            levels = levels_by(edges)
            trees = [tree_below(net, with_member(box, worker, level)) for level in levels if is_round(edges, level)]
            return ("branch", worker, tuple(levels), tuple(trees))
    return ("leaf",)


def is_tree(net, box, thing):
    """Tell whether thing, any value, is a tree of the box; raise IsSteady."""
    check_no_steady(net)
    return is_tree_below(net, box, thing)


def is_tree_below(net, box, thing):
    """Tell whether thing, any value, is a tree of the box."""
    if is_tuple_of(thing, 1):
        return thing[0] == "leaf" and are_pieces(net, box)
    if not is_tuple_of(thing, 4) or thing[0] != "branch" or not is_index(thing[1], len(box)):
        return False
    _, worker, levels, trees = thing
    edges = edges_of(net, worker, box[worker], shown_lots(net, box))
    if is_one_piece(edges) or not are_levels(edges, levels):
        return False
    boxes = [with_member(box, worker, level) for level in levels if is_round(edges, level)]
    return is_tuple_of(trees, len(boxes)) and all([is_tree_below(net, one, tree) for one, tree in zip(boxes, trees)])


def are_levels(edges, thing):
    """Tell whether thing, any value, is a tuple of levels of the states of the edges, in a right order."""
    if not isinstance(thing, tuple) or not all([are_counts(level, 0) for level in thing]):
        return False
    if sorted(thing) != sorted(levels_by(edges)):
        return False
    place = {state: index for index, level in enumerate(thing) for state in level}
    return all([place[before] <= place[state] for before in edges for state in edges[before]])


def greatest_within(net, box):
    """Return the ascending list of the greatest boxes that lie in the box and are held up; raise IsSteady."""
    check_no_steady(net)
    return held_up_within(net, box)


def greatest_ends(net):
    """Return the ascending list of the greatest ends; raise IsSteady."""
    return held_up_within(net, table_of(net))


def home_of(net, box):
    """Return the greatest end in which an end lies; raise IsSteady, NoEnd."""
    homes = [end for end in greatest_ends(net) if lies_in(box, end)]
    if not homes or not are_pieces(net, box):
        raise NoEnd(box)
    return homes[0]
