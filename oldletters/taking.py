"""Who has to take part so that a worker comes to a state [37]."""

from oldletters.choices import least_subsets
from oldletters.nets import check_no_steady, check_state, shown_lots
from oldletters.tables import grown_table, table_of


def movers_table(net, movers):
    """Return the least box with 0 and the states to which steps of these workers lead; raise IsSteady."""
    check_no_steady(net)
    return grown_table(net, lambda worker, state: worker in movers)


def least_movers(net, worker, state):
    """Return the ascending list of the least tuples of movers by which the state is come to; raise IsSteady,
    NoWorker, NoState."""
    check_no_steady(net)
    check_state(net, worker, state)
    return least_subsets(list(range(len(net[0]))), lambda movers: state in movers_table(net, movers)[worker])


def table_without(net, other, letter):
    """Return the table, but for the steps of one worker to states at which it shows this letter."""
    shown = net[0][other][1]
    return grown_table(net, lambda worker, state: worker != other or shown[state] != letter)


def needed_letters(net, worker, state):
    """Return the ascending list of the tuples (other, letter) without which the state is not come to; raise
    IsSteady, NoWorker, NoState."""
    check_no_steady(net)
    check_state(net, worker, state)
    table = table_of(net)
    if state not in table[worker]:
        return []
    # Letters that no state of the table shows are missed by nobody.
    pairs = [(other, letter) for other, letters in enumerate(shown_lots(net, table)) for letter in letters
             if letter != net[0][other][1][0]]
    return [(other, letter) for other, letter in pairs if state not in table_without(net, other, letter)[worker]]
