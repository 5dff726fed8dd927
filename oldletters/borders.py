"""What parts show, whatever their surroundings are [61]."""

from oldletters.choices import boxes_in
from oldletters.codes import full_lots
from oldletters.errors import TooMany
from oldletters.just import just_choices
from oldletters.nets import greatest_of, lies_in, shown_lots
from oldletters.parts import joined_net
from oldletters.tables import grown_box
from oldletters.trees import held_up_within

MOST_ROWS = 30


def speaker(index, letters):
    """Return a worker with this index and a state for each of its letters, which goes by its own letters alone.

    So whichever of them it shows again and again, these states are one piece, and closed.
    """
    code = ("get", index, tuple([("go", letter) for letter in range(letters)]))
    return (letters, tuple(range(letters)), tuple([code for _ in range(letters)]))


class Border:
    """What a part shows on one kind of road; its foreign workers are speakers, whose states are their letters."""

    def __init__(self, part, road):
        foreign, _, shown = part
        speakers = tuple([speaker(index, letters) for index, letters in enumerate(foreign)])
        self.whole = joined_net(part, (speakers, ()))
        self.road = road
        self.first = len(foreign)
        self.showing = [len(foreign) + index for index in shown]
        self.widest = self.table(full_lots(foreign))
        self.tables = {}
        self.closed = {}

    def table(self, ever):
        """Return the table of the part for ever, with ever itself before it."""
        begun = ever + tuple([(0,) for _ in self.whole[0][self.first:]])
        return grown_box(self.whole, begun, shown_lots(self.whole, begun), lambda worker, state: True)

    def table_for(self, ever):
        """Return what table returns, worked out once."""
        if ever not in self.tables:
            self.tables[ever] = self.table(ever)
        return self.tables[ever]

    def shown_in(self, box):
        """Return the lot of a box: the letters that the shown workers show in it."""
        lots = shown_lots(self.whole, box)
        return tuple([lots[worker] for worker in self.showing])

    def closed_for(self, again):
        """Return the ends for again on just roads, whatever ever is, with again itself before them."""
        if again not in self.closed:
            own = list(range(self.first, len(self.whole[0])))
            found = []
            for lots in boxes_in(shown_lots(self.whole, self.widest)[self.first:]):
                choices = just_choices(self.whole, own, self.widest, again + lots)
                found.extend([again + choice for choice in choices])
            self.closed[again] = found
        return self.closed[again]

    def lots(self, ever, again):
        """Return the ascending tuple of the lots in the row of ever and again."""
        table = self.table_for(ever)
        if self.road == "just":
            # An end lies in the table for ever if it does and is one for again: ever means nothing else for it.
            return tuple(sorted({self.shown_in(end) for end in self.closed_for(again) if lies_in(end, table)}))
        ends = held_up_within(self.whole, again + table[self.first:])
        return tuple(greatest_of([self.shown_in(end) for end in ends]))

    def row(self, ever, again):
        """Return the row of ever and again."""
        return (ever, again, self.shown_in(self.table_for(ever)), self.lots(ever, again))


def row_of(part, road, ever, again):
    """Return the row of the part for ever and again, on such roads."""
    return Border(part, road).row(ever, again)


def pairs_of(foreign):
    """Return the ascending list of all tuples (ever, again) for foreign workers with so many letters."""
    return sorted([(ever, again) for ever in boxes_in(full_lots(foreign)) for again in boxes_in(ever)])


def check_few_rows(foreign):
    """Raise TooMany if a part with these foreign workers has more than thirty rows."""
    many = 1
    for letters in foreign:
        # Each letter is shown again and again, or only ever, or never; but not all of them only ever or never.
        all_ways = 1
        bad_ways = 1
        for _ in range(letters):
            all_ways = all_ways * 3
            bad_ways = bad_ways * 2
        many = many * (all_ways - bad_ways)
    if many > MOST_ROWS:
        raise TooMany(MOST_ROWS)


def rows_of(part, road):
    """Return the ascending list of all rows of the part, on such roads; raise TooMany."""
    check_few_rows(part[0])
    border = Border(part, road)
    return [border.row(ever, again) for ever, again in pairs_of(part[0])]
