"""Tests that all that the interface lists is there: names, arguments, and the files in which they are defined."""

import importlib
import inspect
import unittest

FUNCTIONS = {
    "forms": "is_integer(thing), is_road(thing), is_net(thing), is_part(thing), is_code(net, worker, thing), "
             "is_lots(net, thing), is_box(net, thing), is_vector(net, thing), is_deeds(net, thing), "
             "is_endless(net, thing), is_claim(net, thing), is_sorts(net, thing)",
    "codes": "results_of(code, lots), steps_of(code, lots), asked_by(code), told_by(code), places_of(code), "
             "plain_state(code, letters), depth_of(code), gets_in(code), code_under(code, place), "
             "with_code(code, place, other), renumbered(code, table), with_states(code, table)",
    "texts": "is_names(net, thing), default_names(net), show_code(names, worker, code), show_net(names, net), "
             "show_box(names, box), show_claim(names, claim)",
    "reader": "read_net(text), read_code(names, worker, text), read_box(names, text), read_claim(names, text)",
    "grounds": "grounds_of(code, many, own), is_alike_code(one, other, many, own), "
               "is_narrower(one, other, many, own), parting_lots(one, other, many, own), torn_states(code, lots)",
    "sharing": "repeats_of(code), sharings_of(code), least_sharings(code, many, unwanted), shared_code(code, sharing)",
    "nets": "letters_of(net, worker), states_of(net, worker), letter_at(net, worker, state), "
            "code_at(net, worker, state), all_states(net), all_lots(net), shown_lots(net, box), "
            "with_code_at(net, worker, state, code), with_letter_at(net, worker, state, letter), "
            "without_worker(net, worker), reordered(net, order), lies_in(one, other)",
    "tables": "table_of(net), table_from(net, box, lots), is_closed(net, box), is_growth(net, thing), growth_of(net), "
              "way_to_state(net, worker, state)",
    "taking": "movers_table(net, movers), least_movers(net, worker, state), needed_letters(net, worker, state)",
    "runs": "run_with(net, deeds), first_fault(net, deeds), vectors_along(net, deeds)",
    "every": "run_for_all(net), run_to(net, vector), run_through(net, vectors)",
    "knots": "first_knot(net), knot_box(net, knot), ever_at(net), next_knots(net, knot), knots_of(net), "
             "knot_path(net, knot), vectors_of(net), run_to_knot(net, knot), run_to_vector(net, vector), "
             "knots_along(net, deeds), can_be(net, vector)",
    "pieces": "edges_of(net, worker, states, lots), is_piece(net, worker, states, lots), "
              "pieces_of(net, worker, states, lots), levels_of(net, worker, states, lots), "
              "walk_through(net, worker, states, lots), full_walk(net, worker, states, lots)",
    "ends": "is_end(net, box, road), knot_for(net, box), why_not(net, box, road)",
    "trees": "tree_of(net, box), home_of(net, box), is_tree(net, box, thing), greatest_within(net, box), "
             "greatest_ends(net)",
    "rounds": "endless_run(net, box, road), end_of(net, thing), is_full(net, thing)",
    "just": "is_closed_box(net, box), closed_around(net, box), just_ends(net), least_closed(net)",
    "claims": "claim_holds(claim, box), can_hold(net, claim, road), surely_holds(net, claim, road), "
              "widest_ends(net, box), end_with(net, claim, road), end_without(net, claim, road)",
    "rests": "rests_of(net), all_ends(net, road), least_ends(net), surely_rests(net, road)",
    "tellers": "parted_by(one, other), tellers_of(net), tell_ends(net, seen)",
    "sorts": "table_with(net, sorts), shown_with(net, sorts, box), touched_by(net, sort, worker), "
             "is_end_with(net, sorts, box), holds_with(net, sorts, claim, box), bears(net, claim, sort, many), "
             "ends_with(net, sorts), least_spoilers(net, claim, sort), counter_with(net, sorts, claim)",
    "parts": "joined_net(part, around), cut_part(net, some, shown)",
    "borders": "row_of(part, road, ever, again), rows_of(part, road)",
    "joins": "is_alike(one, other, road), stands_for(one, other, road), first_unlike(one, other, road), "
             "put_in_row(one, other), rows_in_row(some, others, road)",
    "parting": "parting_surroundings(one, other, road), border_ends(part, around, road)",
    "nested": "is_rows(foreign, letters, thing), is_choice_for(foreign, letters, rows, ever, thing), "
              "is_refusal_for(foreign, letters, rows, ever, thing), are_rows(foreign, letters, rows), "
              "choice_for(foreign, letters, rows, ever), refusal_for(foreign, letters, rows, ever), "
              "rows_fault(foreign, letters, rows)",
    "single": "one_worker(foreign, letters, rows), one_for(part)",
    "cures": "net_repeats(net), least_cures(net, claim), greatest_failing(net, claim), shared_net(net, sharing)",
    "changes": "rolled_boxes(elder, newer), rolled_run(elder, newer, box), end_of_rolling(elder, newer, thing), "
               "rolled_ends(elder, newer), left_behind(elder, newer), from_anything(net), left_from_anything(net), "
               "is_healing(net)",
    "rows": "row_can_be(net, watched, row), first_wrong_at(net, watched, row), run_with_row(net, watched, row), "
            "parting_row(one, other, watched), box_behind(net, watched, row), known_behind(net, watched, row)",
}
CLASSES = {
    ("runs", "Run"): "__init__(self, net), __eq__(self, other), step(self, worker, moments), fall(self, worker), "
                     "do(self, deed), go_to(self, worker, state), undo(self), net(self), now(self), deeds(self), "
                     "at(self), lots(self), shown(self, worker), latest(self, worker, letter), "
                     "can_come(self, worker), copied(self)",
    ("book", "Book"): "__init__(self, net), change(self, worker, state, code), show(self, worker, state, letter), "
                      "put(self, worker), take(self), keep(self, claim), drop(self, index), undo(self), redo(self), "
                      "net(self), claims(self), holding(self), deeds(self), undone(self)",
    ("desk", "Desk"): "__init__(self, text), names(self), net(self), do(self, command)",
}


def told(text):
    """Return a list of tuples (name, its arguments) of such a text."""
    rows = [row.rstrip(")").split("(") for row in text.split("), ")]
    return [(name, arguments.split(", ")) for name, arguments in rows]


class Interface(unittest.TestCase):
    def check(self, module, found, arguments):
        self.assertTrue(inspect.isfunction(found))
        self.assertEqual(found.__module__, module.__name__)
        parameters = inspect.signature(found).parameters.values()
        self.assertEqual([one.name for one in parameters], arguments)
        self.assertTrue(all(one.default is one.empty and one.kind == one.POSITIONAL_OR_KEYWORD for one in parameters))

    def test_functions(self):
        many = 0
        for name, text in FUNCTIONS.items():
            module = importlib.import_module("oldletters." + name)
            for function, arguments in told(text):
                self.check(module, getattr(module, function), arguments)
                many += 1
        self.assertEqual((len(FUNCTIONS), many), (30, 162))

    def test_classes(self):
        for (name, word), text in CLASSES.items():
            module = importlib.import_module("oldletters." + name)
            own = vars(getattr(module, word))
            for method, arguments in told(text):
                self.check(module, own[method], arguments)


if __name__ == "__main__":
    unittest.main()
