"""Cuts of plain gates: places by which a gate is told, and its table over them."""

from gatepapers.columns import all_trials, column_of, column_told
from gatepapers.tables import MOST_PLACES


def roots_of(circuit):
    """A dict of the places of the roots: gates that are outs or nexts, or stand among gates' places more than once."""
    ins, memories, gates, outs = circuit
    wanted = {}
    for place in outs + [after for begin, after in memories]:
        wanted[place] = 2
    for table, places in gates:
        for place in places:
            wanted[place] = wanted.get(place, 0) + 1
    ahead = ins + len(memories)
    found = [ahead + k for k, (table, places) in enumerate(gates) if places]
    return {gate: True for gate in found if wanted.get(gate, 0) > 1}


def inner_gates(circuit, roots):
    """A dict of the places of the gates with places that are no roots."""
    ahead = circuit[0] + len(circuit[1])
    found = [ahead + k for k, (table, places) in enumerate(circuit[2]) if places]
    return {gate: True for gate in found if gate not in roots}


def tables_by_cut(circuit, inner, gate):
    """A dict of the cuts of a gate, as tuples, and the gate's table over each, given the inner gates."""
    ahead = circuit[0] + len(circuit[1])
    table, places = circuit[2][gate - ahead]
    found = {places: table}
    left = [places]
    while left:
        cut = left.pop()
        for place in cut:
            if place in inner:
                below = circuit[2][place - ahead]
                wider = tuple(sorted(set([other for other in cut if other != place] + list(below[1]))))
                if len(wider) <= MOST_PLACES and wider not in found:
                    found[wider] = table_within(wider, cut, found[cut], place, below)
                    left.append(wider)
    return found


def table_within(wider, cut, table, place, gate):
    """The table over a cut made of another one and its table, where a place of that was exchanged for its gate's."""
    many = len(wider)
    whole = all_trials(many)
    # The trials of all bits for a cut's places are the figures of a table over them.
    columns = {other: column_of(k, many) for k, other in enumerate(wider)}
    columns[place] = column_told(gate[0], [columns[below] for below in gate[1]], whole)
    return column_told(table, [columns[other] for other in cut], whole)
