"""The whole: from a program to gates of a shelf."""

from gatepapers.errors import NoShelf
from gatepapers.few import MOST_INS, MOST_MEMORIES, fewest
from gatepapers.flat import flat
from gatepapers.kinds import look_over
from gatepapers.lay import is_shelf, laid
from gatepapers.move import MOST_GATES, moved
from gatepapers.papers import looked
from gatepapers.plain import plain
from gatepapers.tidy import tidied


def through(program, shelf):
    """The flat circuit of a program, the links of all passes from it to a shelf's gates, and these gates' names."""
    look_over(program)
    if not is_shelf(shelf):
        raise NoShelf("this is no shelf")
    first = flat(program)
    links = [tidied(first)]
    links.extend(moves_of(links[-1][0]))
    links.append(tidied(links[-1][0]))
    links.extend(fewest_of(links[-1][0]))
    links.append(tidied(links[-1][0]))
    links.append(plain(links[-1][0]))
    circuit, names, prices, paper = laid(links[-1][0], shelf)
    links.append((circuit, paper))
    return (first, links, names)


def moves_of(circuit):
    """The links of moved, none where the circuit has too many gates for it."""
    if len(circuit[2]) > MOST_GATES:
        return []
    links, way, marks = moved(circuit)
    return links


def fewest_of(circuit):
    """The link of fewest in a list, an empty one where the circuit has too many ins or memories for it."""
    if circuit[0] > MOST_INS or len(circuit[1]) > MOST_MEMORIES:
        return []
    new, paper, ways, partings = fewest(circuit)
    return [(new, paper)]


def all_looked(first, links):
    """Whether the looker takes each link's paper for the circuit ahead and the link's own."""
    ahead = [first] + [circuit for circuit, paper in links]
    return all([looked(one, circuit, paper) for one, (circuit, paper) in zip(ahead, links)])
