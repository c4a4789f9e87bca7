"""Plain circuits laid on the gates of a shelf, at the least price."""

from gatepapers.bits import is_whole
from gatepapers.circuits import is_tuple
from gatepapers.cuts import inner_gates, roots_of, tables_by_cut
from gatepapers.errors import NoShelf, NotPlain
from gatepapers.plain import BOTH, NOT, is_plain
from gatepapers.tables import MOST_PLACES, hangs, is_table, ordered
from gatepapers.words import LETTERS, MOST_LETTERS
from gatepapers.writing import held_memories, twin_paper

FEWEST_ON_SHELF = 2
MOST_ON_SHELF = 20
MOST_COST = 1000
# All orders of one, two and three places.
ORDERS = (
    (0,), (0, 1), (1, 0), (0, 1, 2), (0, 2, 1), (1, 0, 2), (1, 2, 0), (2, 0, 1), (2, 1, 0),
)


# Shelves.

def is_shelf(thing):
    """Whether a thing is a shelf; of anything."""
    if not isinstance(thing, list) or not FEWEST_ON_SHELF <= len(thing) <= MOST_ON_SHELF:
        return False
    if not all([is_shelf_gate(inner) for inner in thing]):
        return False
    names = [name for name, many, table, cost in thing]
    kinds = [(many, table) for name, many, table, cost in thing]
    return len(set(names)) == len(names) and (1, NOT) in kinds and (2, BOTH) in kinds


def is_shelf_gate(thing):
    """Whether a thing is a gate of a shelf; of anything."""
    if not is_tuple(thing, 4) or not is_gate_name(thing[0]):
        return False
    name, many, table, cost = thing
    if not is_from(many, 1, MOST_PLACES) or not is_from(cost, 1, MOST_COST):
        return False
    return is_table(table, many) and all([hangs(table, many, k) for k in range(many)])


def is_gate_name(thing):
    """Whether a thing is a name of one to eight small letters; of anything."""
    if not isinstance(thing, str) or not 1 <= len(thing) <= MOST_LETTERS:
        return False
    return all([sign in LETTERS for sign in thing])


def is_from(thing, least, most):
    """Whether a thing is a whole number within bounds; of anything."""
    return is_whole(thing) and least <= thing <= most


def fits_of(shelf):
    """By how many places and which table a cut has: the cost of the cheapest gate that fits, its name, table, order."""
    found = {}
    for name, many, table, cost in shelf:
        for order in ORDERS:
            if len(order) == many:
                key = (many, ordered(table, order))
                if key not in found or cost < found[key][0]:
                    found[key] = (cost, name, table, order)
    return found


# Cuts and prices.

def cuts(circuit, gate):
    """The sorted list of the cuts of a gate of a plain circuit, rising lists of places."""
    found = tables_by_cut(circuit, inner_gates(circuit, roots_of(circuit)), gate)
    return sorted([list(cut) for cut in found])


def choices_of(circuit, inner, fits):
    """A dict of the prices of all gates, and for each gate with places a tuple of its cut and the fit at its price."""
    ahead = circuit[0] + len(circuit[1])
    prices = {}
    choices = {}
    for k, (table, places) in enumerate(circuit[2]):
        prices[ahead + k] = 0
        if places:
            price, choice = cheapest(tables_by_cut(circuit, inner, ahead + k), inner, fits, prices)
            prices[ahead + k] = price
            choices[ahead + k] = choice
    return (prices, choices)


def cheapest(tables, inner, fits, prices):
    """The least price by cuts and their tables, and a cut and a fit at this price."""
    found = []
    for cut, table in tables.items():
        if (len(cut), table) in fits:
            fit = fits[(len(cut), table)]
            price = fit[0] + sum([prices[place] for place in cut if place in inner])
            found.append((price, (cut, fit)))
    return min(found, key=lambda pair: pair[0])


def chosen_gates(choices, roots, inner):
    """The gates with places that are to be laid, rising: roots, and inner ones in cuts that are chosen."""
    wanted = dict(roots)
    for gate in sorted(choices, reverse=True):
        if gate in wanted:
            for place in choices[gate][0]:
                if place in inner:
                    wanted[place] = True
    return sorted(wanted)


# Circuits laid.

def laid(circuit, shelf):
    """A plain circuit laid on a shelf's gates, their names, the first circuit's prices, and the paper for both."""
    if not is_plain(circuit):
        raise NotPlain("the circuit has gates that are neither nots nor boths")
    if not is_shelf(shelf):
        raise NoShelf("this is no shelf")
    ins, memories, gates, outs = circuit
    ahead = ins + len(memories)
    roots = roots_of(circuit)
    inner = inner_gates(circuit, roots)
    prices, choices = choices_of(circuit, inner, fits_of(shelf))
    steady = [ahead + k for k, (table, places) in enumerate(gates) if not places]
    kept = sorted(steady + chosen_gates(choices, roots, inner))
    news = {place: place for place in range(ahead)}
    for k, place in enumerate(kept):
        news[place] = ahead + k
    new_gates = [new_gate(choices, news, place) if place in choices else gates[place - ahead] for place in kept]
    new = (ins, [(begin, news[after]) for begin, after in memories], new_gates, [news[place] for place in outs])
    names = [choices[place][1][1] if place in choices else "" for place in kept]
    claimed = [(place, choices[place][0] if place in choices else ()) for place in kept]
    paper = twin_paper(circuit, new, news, held_memories(circuit), claimed)
    return (new, names, [prices[ahead + k] for k in range(len(gates))], paper)


def new_gate(choices, news, place):
    """The shelf gate that is chosen for a place, over the new places of its cut, in the order that fits."""
    cut, (cost, name, table, order) = choices[place]
    # Place k of the cut is place order[k] of the shelf gate.
    return (table, tuple([news[cut[order.index(k)]] for k in range(len(cut))]))
