"""Papers, and the looker that takes them only where they show that two circuits tell the same."""

from gatepapers.bits import is_below, is_whole
from gatepapers.circuits import is_tuple, places_in
from gatepapers.columns import all_trials, column_of
from gatepapers.spots import Ground, is_spot
from gatepapers.tables import is_table

MOST_FREE = 8


def looked(one, other, paper):
    """Whether a paper shows that two circuits tell the same; of anything as the paper."""
    if one[0] != other[0] or len(one[3]) != len(other[3]):
        return False
    if not is_paper(one, other, paper):
        return False
    helpers, held, claims, ends = paper
    ground = Ground(one, other, helpers)
    statements = [((0, k), (1, k)) for k in range(one[0])] + [statement[:2] for statement in held + claims]
    wanted = [((0, place), (1, twin)) for place, twin in zip(one[3], other[3])]
    return (
        [statements[number] for number in ends] == wanted
        and all([hangs_on_no_in(ground, statement) for statement in held])
        and all([holds_first(ground, statement) for statement in held])
        and all([holds_now(ground, statements, statement) for statement in claims])
        and all([holds_next(ground, statements, statement) for statement in held])
    )


# The form of a paper.

def is_paper(one, other, thing):
    """Whether a thing is a paper for two circuits with as many ins and as many outs; of anything."""
    if not is_tuple(thing, 4) or not all([isinstance(inner, list) for inner in thing]):
        return False
    helpers, held, claims, ends = thing
    sizes = [places_in(one), places_in(other), len(helpers)]
    ahead = one[0] + len(held)
    many = ahead + len(claims)
    return (
        all([is_helper(helper, sizes[:2] + [k]) for k, helper in enumerate(helpers)])
        and all([is_statement(statement, sizes, many) for statement in held])
        and all([is_statement(statement, sizes, ahead + k) for k, statement in enumerate(claims)])
        and len(ends) == len(one[3])
        and all([is_below(number, many) for number in ends])
    )


def is_helper(thing, sizes):
    """Whether a thing is a helper over spots that there are so many of; of anything."""
    if not is_tuple(thing, 2) or not isinstance(thing[1], tuple):
        return False
    return is_table(thing[0], len(thing[1])) and all([is_spot(spot, sizes) for spot in thing[1]])


def is_statement(thing, sizes, below):
    """Whether a thing is a statement whose numbers of others are below a bound; of anything."""
    if not is_tuple(thing, 4) or not is_spot(thing[0], sizes) or not is_spot(thing[1], sizes):
        return False
    free, given = thing[2:]
    if not isinstance(free, list) or not isinstance(given, list) or len(free) > MOST_FREE:
        return False
    return (
        all([is_below(inner, below) or is_spot(inner, sizes) for inner in free])
        and all([is_below(number, below) for number in given])
    )


# What a paper shows.

def hangs_on_no_in(ground, statement):
    """Whether no in is met below the spots of a statement."""
    return all([spot in ground.gates or spot in ground.begins for spot in ground.all_below({}, statement[:2])])


def holds_first(ground, statement):
    """Whether the spots of a statement have one value at the beginning."""
    found = ground.reckoned(ground.begins, statement[:2], 1)
    return found[statement[0]] == found[statement[1]]


def holds_now(ground, statements, statement):
    """Whether the spots of a statement are shown alike by its free and given."""
    one, other, free, given = statement
    trials = trials_by(ground, statements, free, given, [one, other])
    if trials is None:
        return False
    found, kept = trials
    return (found[one] ^ found[other]) & kept == 0


def holds_next(ground, statements, statement):
    """Whether the spots of a statement are shown alike at the next turn by its free and given."""
    one, other, free, given = statement
    memories = [spot for spot in ground.all_below({}, [one, other]) if spot in ground.afters]
    trials = trials_by(ground, statements, free, given, [ground.afters[spot] for spot in memories])
    if trials is None:
        return False
    found, kept = trials
    nexts = {spot: found[ground.afters[spot]] for spot in memories}
    later = ground.reckoned(nexts, [one, other], all_trials(len(free)))
    return (later[one] ^ later[other]) & kept == 0


# All bits tried at once: each spot has a column, with a bit for each trial.

def trials_by(ground, statements, free, given, wanted):
    """The columns of the spots wanted, and which trials are not passed over; None where one can't be reckoned."""
    whole = all_trials(len(free))
    bits, kept = bits_by_free(statements, free)
    known = bits_by_given(ground, statements, given, bits, whole)
    needed = list(wanted)
    for number in given:
        needed.extend(statements[number])
    found = ground.reckoned(known, needed, whole)
    if not all([spot in found for spot in needed]):
        return None
    for number in given:
        first, second = statements[number]
        kept &= whole ^ found[first] ^ found[second]
    return (found, kept)


def bits_by_free(statements, free):
    """The columns of the spots that have bits of free, and in which trials none has two unlike ones."""
    whole = all_trials(len(free))
    bits = {}
    kept = whole
    for k, thing in enumerate(free):
        column = column_of(k, len(free))
        spots = statements[thing] if is_whole(thing) else (thing,)
        for spot in spots:
            if spot in bits:
                kept &= whole ^ bits[spot] ^ column
            else:
                bits[spot] = column
    return (bits, kept)


def bits_by_given(ground, statements, given, bits, whole):
    """The bits of free, and those that ins and memories without one have by the statements given."""
    firsts = {}
    for number in given:
        first, second = statements[number]
        if second not in bits and second not in ground.gates and second not in firsts:
            firsts[second] = first
    # By bits of free alone, so that no two statements lean on one another.
    alone = ground.reckoned(bits, list(firsts.values()), whole)
    found = dict(bits)
    for second, first in firsts.items():
        if first in alone:
            found[second] = alone[first]
    return found
