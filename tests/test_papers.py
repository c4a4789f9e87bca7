"""Papers: their form, and what the looker takes."""

from copy import deepcopy
from itertools import product
from random import Random

from gatepapers.circuits import is_circuit, run_bits
from gatepapers.flat import flat
from gatepapers.judge import parted
from gatepapers.papers import looked
from gatepapers.reading import read
from tests.helper import ODD_THINGS, Checks, PaperModel, made_up_circuit


def zero(k):
    return (0, k)


def one(k):
    return (1, k)


def aid(k):
    return (2, k)


def paper_of_itself(circuit):
    """The paper for a circuit and itself that claims each place: the number of a statement is that of its place."""
    ins, memories, gates, outs = circuit
    held = [(zero(ins + k), one(ins + k), [after], []) for k, (begin, after) in enumerate(memories)]
    ahead = ins + len(memories)
    claims = [(zero(ahead + k), one(ahead + k), list(places), []) for k, (table, places) in enumerate(gates)]
    return ([], held, claims, list(outs))


def paper_by_helpers(circuit):
    """The like, by a helper for each memory and each gate, as which both circuits' spots are claimed to be."""
    ins, memories, gates, outs = circuit
    ahead, many = ins + len(memories), len(memories) + len(gates)
    helpers = [(2, (zero(ins + k),)) for k in range(len(memories))]
    helpers += [(table, tuple([zero(place) if place < ins else aid(place - ins) for place in places]))
                for table, places in gates]

    def number(place, kind):
        """The number of the claim for the helper of a place and 0, the one for it and 1, or the one for 0 and 1."""
        return place if place < ins else ahead + (2 * (place - ins) + kind if kind < 2 else 2 * many + place - ins)

    held = [(aid(k), one(ins + k), [number(after, 2)], []) for k, (begin, after) in enumerate(memories)]
    claims = []
    for k in range(len(memories)):
        claims.append((zero(ins + k), aid(k), [zero(ins + k)], []))
        claims.append((aid(k), one(ins + k), [ins + k], []))
    for k, (table, places) in enumerate(gates):
        claims.append((zero(ahead + k), aid(len(memories) + k), [number(place, 0) for place in places], []))
        claims.append((aid(len(memories) + k), one(ahead + k), [number(place, 1) for place in places], []))
    for place in range(ins, ins + many):
        claims.append((zero(place), one(place), [number(place, 0), one(place)], [number(place, 1)]))
    return (helpers, held, claims, [number(place, 2) for place in outs])


# Two circuits that tell the same in two ways, and good papers for them.

TOGGLE = (1, [(0, 2)], [(6, (0, 1))], [1])
NOT_TOGGLE = (1, [(1, 2)], [(6, (0, 1)), (1, (1,))], [3])
# The one's memory is always the not of the other's, which the helper tells.
TOGGLES_PAPER = (
    [(1, (one(1),))],
    [(zero(1), aid(0), [zero(0), zero(1), one(1)], [0, 1])],
    [(zero(1), one(3), [zero(1), one(1)], [1])],
    [2],
)
WIDE = (2, [(0, 5), (1, 4)], [(8, (0, 2)), (6, (1, 3)), (216, (0, 4, 5)), (1, ())], [6, 3, 7])
GOOD = [
    (WIDE, WIDE, paper_of_itself(WIDE)),
    (WIDE, WIDE, paper_by_helpers(WIDE)),
    (TOGGLE, NOT_TOGGLE, TOGGLES_PAPER),
    ((0, [], [], []), (0, [], [], []), ([], [], [], [])),
    ((2, [], [], [1, 0]), (2, [], [], [1, 0]), ([], [], [], [1, 0])),
]


class Taken(Checks):
    def test_good_papers(self):
        for circuit, other, paper in GOOD:
            self.assertIs(is_circuit(circuit) and is_circuit(other), True)
            self.assertIs(looked(circuit, other, paper), True, paper)
            self.assertTrue(PaperModel(circuit, other, paper).taken())

    def test_a_circuit_and_itself(self):
        chance = Random(1)
        for k in range(200):
            circuit = made_up_circuit(chance, *[chance.randint(0, most) for most in (3, 3, 8, 3)])
            self.assertIs(looked(circuit, circuit, paper_of_itself(circuit)), True, circuit)
            self.assertIs(looked(circuit, deepcopy(circuit), paper_by_helpers(circuit)), True, circuit)

    def test_a_flat_circuit_and_itself(self):
        circuit = flat(read("part main in x 8 memory m 8 77 (plus m x) rooms q a b c go q a b (less m x) go q b c "
                            "(same m x) out y (if (at q c) (minus m x) (and m x)) end"))
        self.assertIs(looked(circuit, circuit, paper_of_itself(circuit)), True)
        self.assertIs(looked(circuit, circuit, paper_by_helpers(circuit)), True)

    def test_long_rows_of_gates(self):
        circuit = (1, [(0, 4000)], [(1, (k,)) for k in range(1, 3999)] + [(6, (0, 3999))], [4000])
        self.assertIs(looked(circuit, circuit, paper_of_itself(circuit)), True)
        # All gates at once: down to the bits of the in and the memory.
        paper = ([], [(zero(1), one(1), [0, 1], [])], [(zero(4000), one(4000), [0, 1], [])], [2])
        self.assertIs(looked(circuit, circuit, paper), True)

    def test_truths_alone_are_told(self):
        self.assertIs(looked(TOGGLE, TOGGLE, TOGGLES_PAPER), False)
        self.assertIs(looked(TOGGLE, NOT_TOGGLE, TOGGLES_PAPER), True)

    def test_what_is_handed_in_stays(self):
        for circuit, other, paper in GOOD:
            self.own_lists(looked, circuit, other, paper)
            self.own_lists(looked, circuit, (5, [], [], []), paper)


# The form.

def spoilt(thing):
    """A thing with something spoilt somewhere in it, so that it is of no good form wherever it stood."""
    if isinstance(thing, int):
        return [None, "0", "", -1, 10 ** 9, 10 ** 40, float(thing), [thing], (thing,), {}] + [bool(thing)] * (thing in (0, 1))
    found = [None, 7 if isinstance(thing, list) else -1, "ab", {}]
    found.append(list(thing) if isinstance(thing, tuple) else tuple(thing))
    if isinstance(thing, tuple):
        found += [thing + (0,), thing + ((0, 0),), thing + ([],)] + ([thing[:-1]] if thing else [])
    for k, inner in enumerate(thing):
        for bad in spoilt(inner):
            new = list(thing)
            new[k] = bad
            found.append(tuple(new) if isinstance(thing, tuple) else new)
    return found


class Form(Checks):
    CIRCUIT = (2, [(0, 4), (1, 3)], [(8, (0, 2)), (6, (1, 3))], [4, 0])

    def no_paper(self, paper, circuit=CIRCUIT, other=CIRCUIT):
        self.assertIs(looked(circuit, other, paper), False, paper)

    def test_what_is_no_paper_at_all(self):
        for thing in ODD_THINGS + [0, 1, -1, 10 ** 59, "", "abcd", [[], [], [], []], ([], [], []), ([],) * 5, (None,) * 4]:
            self.no_paper(thing)
            self.no_paper(thing, (0, [], [], []), (0, [], [], []))
        # Without places all four are empty lists, and this alone is a paper.
        self.assertIs(looked((0, [], [], []), (0, [], [], []), ([],) * 4), True)

    def test_one_thing_odd(self):
        good = paper_of_itself(self.CIRCUIT)
        self.assertIs(looked(self.CIRCUIT, self.CIRCUIT, good), True)
        # Lists may be good, and (1, 2) is a spot.
        for thing in [thing for thing in ODD_THINGS + ["", "ab", -1] if type(thing) is not list and thing != (1, 2)]:
            for k in range(4):
                self.no_paper(good[:k] + (thing,) + good[k + 1:])
            self.no_paper(([thing],) + good[1:])
            self.no_paper((good[0], good[1] + [thing]) + good[2:])
            self.no_paper((good[0], good[1], good[2] + [thing], good[3]))
            self.no_paper((good[0], good[1], good[2], [thing, 0]))
            claim = (zero(0), one(0), [0], [])
            for k in range(4):
                self.also(True, claim)
                self.also(False, claim[:k] + (thing,) + claim[k + 1:])
            self.also(False, (zero(0), one(0), [0, thing], []))
            self.also(False, (zero(0), one(0), [0], [thing]))
            self.also(False, claim, [(0, (thing,))])
            self.also(False, claim, [(thing, ())])

    def test_each_thing_spoilt(self):
        many = 0
        for circuit, other, paper in GOOD:
            for bad in spoilt(paper):
                self.no_paper(bad, circuit, other)
                many += 1
        self.assertGreater(many, 3000)

    def also(self, taken, claim, helpers=()):
        """Whether the paper for a circuit and itself is taken with one claim more, its number being 6, and helpers."""
        good = paper_of_itself(self.CIRCUIT)
        paper = (list(helpers), good[1], good[2] + [claim], good[3])
        self.assertIs(looked(self.CIRCUIT, self.CIRCUIT, paper), taken, paper)

    def test_spots(self):
        for which in range(3):
            spot = (which, 5 if which < 2 else 1)
            helpers = [(8, (zero(0), one(1))), (1, (aid(0),))]
            self.also(True, (spot, spot, [spot], []), helpers)
            self.also(False, ((which, spot[1] + 1), spot, [spot], []), helpers)
            self.also(False, (spot, (which, spot[1] + 1), [spot], []), helpers)
            self.also(False, (spot, spot, [spot, (which, spot[1] + 1)], []), helpers)
            self.also(False, (spot, spot, [spot, (which, -1)], []), helpers)
        for which in (-1, 3, 4, True, None, "0"):
            self.also(False, (zero(0), zero(0), [zero(0), (which, 0)], []), [(0, ())] * 3)
        self.also(False, (aid(0), aid(0), [aid(0)], []))
        self.also(False, (zero(0), zero(0), [zero(0), (0, 0, 0)], []))
        self.also(False, (zero(0), zero(0), [zero(0), (0,)], []))
        self.also(False, (zero(0), zero(0), [zero(0), [0, 0]], []))
        self.also(False, (zero(0), zero(0), [zero(0), ()], []))

    def test_places_of_two_circuits_that_are_not_as_many(self):
        other = (2, self.CIRCUIT[1], self.CIRCUIT[2] + [(8, (0, 1))], self.CIRCUIT[3])
        good = paper_of_itself(self.CIRCUIT)
        for spot, taken in ((zero(5), True), (zero(6), False), (one(6), True), (one(7), False)):
            paper = good[:2] + (good[2] + [(spot, spot, [spot], [])], good[3])
            self.assertIs(looked(self.CIRCUIT, other, paper), taken)
            self.assertIs(looked(other, self.CIRCUIT, paper), spot in (zero(5), zero(6)))

    def test_helpers(self):
        spare = (zero(0), zero(0), [zero(0)], [])
        for many, most in ((0, 1), (1, 3), (2, 15), (3, 255)):
            for table in (-1, 0, 1, most, most + 1, True, None):
                good = type(table) is int and 0 <= table <= most
                self.also(good, spare, [(table, (zero(5), one(5), zero(0))[:many])])
        self.also(False, spare, [(0, (zero(0),) * 4)])
        self.also(False, spare, [(0, (zero(0),) * 5)])
        for k in range(3):
            for j in range(-1, 5):
                helpers = [(0, ()), (0, ()), (0, ())]
                helpers[k] = (6, (zero(0), aid(j)))
                self.also(0 <= j < k, spare, helpers)
        for bad in (zero(6), zero(-1), one(6), (3, 0), (-1, 0), 0, None, [0, 0]):
            self.also(False, spare, [(2, (bad,))])
        self.also(False, spare, [(0, [])])
        self.also(False, spare, [[0, ()]])
        self.also(False, spare, [(0, (), ())])
        self.also(False, spare, [(0,)])

    def test_nine_things_in_free(self):
        for many in range(12):
            self.also(1 <= many <= 8, (zero(0), one(0), [0] * many, []))
            self.also(1 <= many <= 8, (zero(0), zero(0), [zero(0)] * many, []))
        self.also(True, (zero(0), one(0), [0], [0] * 20))

    def test_numbers_of_a_claim(self):
        # Its own number is 6: it must not lean on itself, or on a later one.
        self.also(True, (zero(5), one(5), [5], []))
        for bad in (6, 7, 8, -1, True, None, "5", 10 ** 50):
            self.also(False, (zero(5), one(5), [5, bad], []))
            self.also(False, (zero(5), one(5), [5], [bad]))
        self.also(False, (zero(0), zero(5), [6], []))
        good = paper_of_itself(self.CIRCUIT)
        for number, taken in ((6, True), (7, False), (8, False)):
            later = [(zero(5), one(5), [5], []), (zero(5), one(5), [number], []), (zero(5), one(5), [5], [])]
            self.no_paper((good[0], good[1], good[2] + [(zero(5), one(5), [7], [])] + later, good[3]))
            paper = (good[0], good[1], good[2] + later, good[3])
            self.assertIs(looked(self.CIRCUIT, self.CIRCUIT, paper), taken)
            later[1] = (zero(5), one(5), [5], [number])
            self.assertIs(looked(self.CIRCUIT, self.CIRCUIT, paper), taken)

    def test_numbers_of_a_held_one(self):
        # It may lean on any statement, itself and claims too.
        good = paper_of_itself(self.CIRCUIT)
        for number in range(6):
            held = [(zero(2), one(2), [4, number], [number])] + good[1][1:]
            if number == 5:
                held = [(zero(2), one(2), [4, number], [])] + good[1][1:]
            self.assertIs(looked(self.CIRCUIT, self.CIRCUIT, (good[0], held) + good[2:]), True)
        for bad in (6, 7, -1, True, None, "4"):
            self.no_paper((good[0], [(zero(2), one(2), [4, bad], [])] + good[1][1:]) + good[2:])
            self.no_paper((good[0], [(zero(2), one(2), [4], [bad])] + good[1][1:]) + good[2:])

    def test_ends(self):
        good = paper_of_itself(self.CIRCUIT)
        for ends in ([], [4], [4, 0, 0], [4, 0, 4], [4, 6], [4, -2], [4, False], [4, None], (4, 0), [4, "0"], [[4], [0]]):
            self.no_paper(good[:3] + (ends,))
        self.assertIs(looked(self.CIRCUIT, self.CIRCUIT, good[:3] + ([4, 0],)), True)

    def test_circuits_with_another_number_of_ins_or_outs(self):
        empty = ([], [], [], [])
        for circuit, other in [
            ((0, [], [], []), (1, [], [], [])), ((3, [], [], []), (2, [], [], [])), ((1, [], [], []), (1, [], [], [0])),
            ((1, [], [], [0]), (1, [], [], [])), ((1, [], [], [0]), (1, [], [], [0, 0])), ((2, [], [], [0]), (1, [], [], [0])),
        ]:
            for paper in (empty, ([], [], [], [0]), ([], [], [], [0, 0]), None, 5):
                self.no_paper(paper, circuit, other)
        self.assertIs(looked((1, [], [], [0]), (1, [], [], [0]), ([], [], [], [0])), True)


class Shown(Checks):
    """Statements one by one: circuits without outs, whose papers are taken where all that they say is shown."""

    # Ins 0 and 1, a memory 2, a both 3, its not 4, a 0 at 5, a 1 at 6, a choice 7 that hangs on 0 alone.
    ZERO = (2, [(0, 3)], [(8, (0, 1)), (1, (3,)), (0, ()), (1, ()), (170, (0, 1, 2))], [])
    ONE = (2, [(0, 3)], [(8, (0, 1)), (1, (3,)), (0, ()), (1, ()), (170, (0, 1, 2))], [])

    def claims(self, taken, *claims, helpers=(), held=(), circuits=None):
        circuit, other = circuits or (self.ZERO, self.ONE)
        self.assertTrue(is_circuit(circuit) and is_circuit(other))
        paper = (list(helpers), list(held), list(claims), [])
        self.assertIs(looked(circuit, other, paper), taken, paper)
        self.assertEqual(PaperModel(circuit, other, paper).taken(), taken)

    MEMORIES = (zero(2), one(2), [0, 1], [])

    def test_a_spot_of_free_has_its_bit(self):
        self.claims(True, (zero(3), zero(3), [zero(3)], []))
        self.claims(True, (zero(0), zero(0), [zero(0)], []))
        self.claims(True, (zero(3), zero(3), [zero(0), zero(1)], []))
        self.claims(False, (zero(3), one(3), [zero(3)], []))
        self.claims(False, (zero(0), one(0), [zero(0), one(0)], []))
        self.claims(False, (zero(0), zero(1), [zero(0), zero(1)], []))
        self.claims(True, (zero(7), zero(0), [zero(0), zero(1), zero(2)], []))
        # A gate that has a bit is not reckoned: its not still is.
        self.claims(False, (zero(3), zero(0), [zero(3), zero(0), zero(1)], []))
        self.claims(False, (zero(4), zero(3), [zero(3)], []))
        self.claims(True, (zero(4), aid(0), [zero(3)], []), helpers=[(1, (zero(3),))])
        self.claims(True, (aid(0), aid(0), [aid(0)], []), helpers=[(8, (zero(0), one(1)))])
        self.claims(True, (aid(1), aid(2), [aid(0)], []), helpers=[(8, (zero(0), one(1))), (1, (aid(0),)), (1, (aid(0),))])

    def test_all_bits_are_tried(self):
        for table in range(16):
            for other in range(16):
                self.claims(table == other, (aid(0), aid(1), [zero(0), zero(1)], []),
                            helpers=[(table, (zero(0), zero(1))), (other, (zero(0), zero(1)))])
        # Unlike in one of 256 trials alone.
        spots = [(which, k) for which in (0, 1) for k in range(4)]
        chain = [(2, (spots[0],))] + [(8, (aid(k), spot)) for k, spot in enumerate(spots[1:])]
        self.claims(False, (aid(7), zero(5), spots, []), helpers=chain)
        chain.append((0, (aid(7),)))
        self.claims(True, (aid(8), zero(5), spots, []), helpers=chain)

    def test_of_a_statement_both_spots_have_the_bit(self):
        self.claims(True, (zero(3), one(3), [0, 1], []))
        self.claims(False, (zero(3), one(3), [0], []))
        self.claims(False, (zero(3), one(3), [1], []))
        self.claims(True, (zero(3), one(3), [0, 1], []), (zero(4), one(4), [2], []))
        self.claims(False, (zero(3), one(3), [0, 1], []), (zero(4), one(3), [2], []))
        self.claims(True, (zero(2), one(2), [2], []), held=[(zero(2), one(2), [0, 1], [])])

    def test_a_gate_without_places_with_a_bit(self):
        # By its table it is reckoned without any bits.
        self.claims(True, (zero(5), one(5), [], []))
        self.claims(True, (zero(6), one(6), [zero(0)], []))
        self.claims(False, (zero(5), one(6), [], []))
        # With a bit of free it has that one, whatever its table tells.
        self.claims(False, (zero(5), one(5), [zero(5)], []))
        self.claims(False, (zero(5), one(5), [one(5)], []))
        self.claims(False, (zero(6), one(6), [zero(6)], []))
        self.claims(True, (zero(5), zero(5), [zero(5)], []))
        # So have both spots of a statement in free.
        self.claims(True, (zero(5), one(5), [], []), (zero(5), one(5), [2], []))
        self.claims(False, (zero(5), one(5), [], []), (zero(5), zero(5), [], []), (zero(5), one(5), [3], []))
        self.claims(False, (zero(5), one(5), [], []), (aid(0), one(6), [2], []), helpers=[(1, (zero(5),))])
        self.claims(True, (aid(0), one(6), [], []), helpers=[(1, (zero(5),))])
        self.claims(True, (zero(5), one(5), [], []), (aid(0), aid(1), [2], []), helpers=[(1, (zero(5),)), (1, (one(5),))])

    def test_a_gate_is_reckoned_by_all_its_places(self):
        self.claims(False, (zero(7), zero(7), [zero(0)], []))
        self.claims(False, (zero(7), zero(7), [zero(0), zero(1)], []))
        self.claims(True, (zero(7), zero(7), [zero(0), zero(1), zero(2)], []))
        self.claims(True, (zero(7), zero(0), [zero(0), zero(1), zero(2)], []))
        self.claims(False, (aid(0), zero(5), [], []), helpers=[(0, (zero(0),))])
        self.claims(True, (aid(0), zero(5), [zero(0)], []), helpers=[(0, (zero(0),))])
        self.claims(False, (aid(0), zero(5), [zero(0)], []), helpers=[(0, (zero(0), one(0)))])

    def test_a_spot_wanted_that_cannot_be_reckoned(self):
        self.claims(False, (zero(0), zero(0), [], []))
        self.claims(False, (zero(2), zero(2), [], []))
        self.claims(False, (zero(3), zero(3), [zero(0)], []))
        self.claims(False, (zero(3), zero(3), [], []))
        self.claims(False, (zero(0), zero(0), [one(0)], []))
        # Of a given statement, too.
        self.claims(True, (zero(3), zero(3), [zero(3)], []))
        self.claims(False, (zero(3), zero(3), [zero(3)], [0]))
        self.claims(False, (zero(3), zero(3), [zero(3), one(0)], [0]))
        self.claims(True, (zero(3), zero(3), [zero(3), zero(0)], [0]))
        self.claims(True, (zero(3), one(3), [0, 1], []), (zero(5), one(5), [0, 1], [2]))
        self.claims(False, (zero(3), one(3), [0, 1], []), (zero(5), one(5), [0], [2]))

    def test_an_in_or_a_memory_has_what_a_given_statement_tells(self):
        self.claims(True, (zero(0), one(0), [zero(0)], [0]))
        self.claims(False, (zero(0), one(0), [zero(0)], []))
        self.claims(False, (zero(0), one(0), [zero(0)], [1]))
        self.claims(True, (zero(3), one(3), [zero(0), zero(1)], [0, 1]))
        self.claims(False, (zero(3), one(3), [zero(0), zero(1)], [0]))
        self.claims(True, (zero(2), one(2), [zero(2)], [2]), held=[self.MEMORIES])
        # The second spot has it of the first, not the other way about.
        self.claims(False, (zero(0), one(0), [], [0]))
        self.claims(False, (zero(3), one(3), [zero(0), zero(1), one(0)], [1]))
        self.claims(False, (zero(0), one(0), [aid(0)], [0]), helpers=[(2, (one(0),))])
        self.claims(False, (zero(0), zero(0), [one(0)], [0]))
        # A gate has nothing of it.
        self.claims(False, (zero(3), one(3), [0, 1], []), (zero(3), one(3), [zero(3)], [2]))
        self.claims(False, (zero(3), aid(0), [zero(0), zero(1)], []), (zero(3), aid(0), [zero(3)], [2]),
                    helpers=[(8, (zero(0), zero(1)))])

    def test_a_memory_that_has_a_bit_keeps_it(self):
        # The memory (1, 2) has the bit of the statement 2, as (0, 2) has: the statement 3 then binds (0, 3) to it.
        two = (2, [(0, 0), (0, 0)], [], [])
        held = [(zero(2), one(2), [0], []), (zero(3), one(2), [0], [])]
        self.claims(True, (zero(2), zero(3), [2, zero(3)], [3]), held=held, circuits=(two, two))
        self.claims(False, (zero(2), zero(3), [2, zero(3)], []), held=held, circuits=(two, two))

    def test_the_first_statement_given_counts(self):
        # The memory (1, 2) is as (0, 2), and as the helper 0, a both of itself and itself.
        held = [self.MEMORIES, (aid(0), one(2), [0, 1], [])]
        helpers = [(8, (one(2), one(2)))]
        self.claims(True, (zero(2), one(2), [zero(2)], [2]), helpers=helpers, held=held)
        self.claims(True, (zero(2), one(2), [zero(2)], [2, 3]), helpers=helpers, held=held)
        # The helper can't be reckoned by bits of free alone, so the statement 3 tells nothing where it comes first.
        self.claims(False, (zero(2), one(2), [zero(2)], [3, 2]), helpers=helpers, held=held)
        self.claims(False, (zero(2), one(2), [zero(2)], [3]), helpers=helpers, held=held)

    def test_by_bits_of_free_alone(self):
        # (1, 2) is as (0, 2), the helper 0 as (1, 2), (0, 2) as the helper 0: in a ring nothing is known.
        held = [self.MEMORIES, (one(2), zero(2), [0, 1], [])]
        self.claims(False, (zero(2), one(2), [], [2, 3]), held=held)
        self.claims(False, (zero(5), one(5), [], [2, 3]), held=held)
        self.claims(True, (zero(2), one(2), [zero(2)], [2, 3]), held=held)
        self.claims(True, (zero(2), one(2), [one(2)], [2, 3]), held=held)
        # The value of (1, 0) is not handed on to the memory (1, 3), though it is as (1, 2), and that as (0, 2).
        two = (2, [(0, 0), (0, 0)], [], [])
        held = [(zero(2), one(2), [0], []), (one(2), one(3), [0], []), (zero(2), one(3), [0], [])]
        self.claims(False, (zero(2), one(3), [zero(2)], [2, 3]), held=held, circuits=(two, two))
        self.claims(True, (zero(2), one(3), [zero(2), one(2)], [2, 3]), held=held, circuits=(two, two))
        self.claims(True, (zero(2), one(3), [zero(2)], [2, 4]), held=held, circuits=(two, two))
        # The first spot may be one that is reckoned by tables, where bits of free are enough for it.
        held = [(aid(0), one(2), [0, 1], [])]
        self.claims(True, (zero(2), one(2), [zero(2)], [2]), helpers=[(8, (zero(2), zero(2)))], held=held)
        self.claims(False, (zero(2), one(2), [zero(0)], [2]), helpers=[(8, (zero(2), zero(2)))], held=held)

    def test_bits_by_which_one_spot_has_two(self):
        self.claims(True, (zero(0), one(0), [0, zero(0)], []))
        self.claims(True, (aid(0), aid(1), [zero(0), zero(0)], []), helpers=[(2, (zero(0),)), (2, (zero(0),))])
        self.claims(False, (aid(0), aid(1), [zero(0), zero(0)], []), helpers=[(2, (zero(0),)), (1, (zero(0),))])
        # The two statements bind the four ins to one bit, by a claim that they share.
        same = (1, [(0, 1), (0, 2)], [], [])
        held = [(zero(1), one(1), [zero(1), one(1)], [1]), (one(1), one(2), [one(1), one(2)], [2])]
        self.claims(True, (zero(1), one(2), [1, 2], []), held=held, circuits=(same, same))
        self.claims(False, (zero(1), one(2), [1, one(2)], []), held=held, circuits=(same, same))
        self.claims(True, (zero(1), one(2), [one(2), 2, one(1), 1], []), held=held, circuits=(same, same))

    def test_bits_by_which_a_given_statement_is_unlike(self):
        self.claims(True, (zero(0), one(0), [zero(0), one(0)], [0]))
        self.claims(False, (zero(0), one(0), [zero(0), one(0)], [1]))
        self.claims(False, (zero(0), one(0), [zero(0), one(0)], []))
        both = (zero(3), one(3), [0, 1], [])
        self.claims(True, both, (zero(4), one(4), [zero(3), one(3)], [2]))
        self.claims(False, both, (zero(4), one(4), [zero(3), one(3)], []))
        # Two givens are looked at both.
        self.claims(True, both, (aid(0), aid(1), [zero(3), one(3), zero(0), one(0)], [0, 2]),
                    helpers=[(6, (zero(3), zero(0))), (6, (one(3), one(0)))])
        for given in ([0], [2]):
            self.claims(False, both, (aid(0), aid(1), [zero(3), one(3), zero(0), one(0)], given),
                        helpers=[(6, (zero(3), zero(0))), (6, (one(3), one(0)))])

    def test_bits_of_gates_without_places_are_passed_over_by_what_is_given(self):
        helpers = [(6, (zero(5), one(5))), (0, ())]
        claim = (zero(5), one(5), [], [])
        self.claims(True, claim, (aid(0), one(5), [zero(5)], [2]), helpers=helpers)
        self.claims(False, claim, (aid(0), one(5), [zero(5)], []), helpers=helpers)
        self.claims(True, claim, (aid(0), aid(1), [zero(5), one(5)], [2]), helpers=helpers)
        self.claims(False, claim, (aid(0), aid(1), [zero(5), one(5)], []), helpers=helpers)

    def test_claims_of_one_circuit_alone(self):
        self.claims(True, (zero(7), zero(0), [zero(0), zero(1), zero(2)], []))
        self.claims(True, (one(7), one(0), [one(0), one(1), one(2)], []))
        self.claims(False, (one(7), one(0), [zero(0), zero(1), zero(2)], []))


class Points(Checks):
    """Each of the points that the looker looks at: papers that keep to all but one."""

    def check(self, taken, circuit, other, paper):
        self.assertTrue(is_circuit(circuit) and is_circuit(other))
        self.assertIs(looked(circuit, other, paper), taken, paper)
        self.assertEqual(PaperModel(circuit, other, paper).taken(), taken)

    def test_held_spots_hang_on_no_in(self):
        # The in itself, alike at the beginning or not, and with nothing to show against it at the next turn.
        circuit = (1, [(0, 0)], [(8, (0, 1)), (0, (0,)), (2, (1,)), (0, ())], [])
        for spots in ((zero(0), one(0)), (zero(0), zero(0)), (zero(2), one(2)), (zero(3), one(3)), (zero(3), zero(5)),
                      (zero(5), zero(3)), (aid(0), aid(0)), (aid(1), aid(1)), (zero(1), aid(1))):
            self.check(False, circuit, circuit, ([(0, (zero(0),)), (2, (aid(0),))], [spots + ([0], [])], [], []))
        # Nexts are left out: the memory's next is the in.
        for spots in ((zero(1), one(1)), (zero(4), one(4)), (zero(1), one(4)), (zero(5), one(5)), (aid(0), aid(1))):
            self.check(True, circuit, circuit, ([(1, (zero(1),)), (1, (one(1),))], [spots + ([0], [])], [], []))

    def test_held_spots_begin_alike(self):
        for begin, other in product((0, 1), repeat=2):
            circuits = ((1, [(begin, 0)], [], [1]), (1, [(other, 0)], [], [1]))
            self.check(begin == other, *circuits, ([], [(zero(1), one(1), [0], [])], [], [1]))
            # By a helper: the memory of the one is the not of the other's, now and later never.
            ring = ((0, [(begin, 1)], [(1, (0,))], []), (0, [(other, 1)], [(1, (0,))], []))
            self.check(begin != other, *ring, ([(1, (one(0),))], [(zero(0), aid(0), [zero(0), one(0)], [0])], [], []))
            self.check(begin == other, *ring, ([], [(zero(0), one(0), [0], [])], [], []))

    def test_a_claim_that_is_not_shown(self):
        circuit = (2, [], [(8, (0, 1)), (8, (0, 1))], [2])
        self.check(True, circuit, circuit, ([], [], [(zero(2), one(2), [0, 1], [])], [2]))
        self.check(False, circuit, circuit, ([], [], [(zero(2), one(2), [0], [])], [2]))
        self.check(False, circuit, circuit, ([], [], [(zero(2), one(2), [zero(2), one(2)], [])], [2]))
        # One that no end needs counts too, be it true or not.
        self.check(False, circuit, circuit, ([], [], [(zero(2), one(2), [0, 1], []), (zero(3), one(3), [1], [])], [2]))
        self.check(False, circuit, circuit, ([], [], [(zero(2), one(2), [0, 1], []), (zero(3), one(0), [0, 1], [])], [2]))

    def test_a_held_one_that_is_not_shown_at_the_next_turn(self):
        circuit = (1, [(0, 0)], [], [1])
        self.check(True, circuit, circuit, ([], [(zero(1), one(1), [0], [])], [], [1]))
        self.check(False, circuit, circuit, ([], [(zero(1), one(1), [1], [])], [], [1]))
        self.check(False, circuit, circuit, ([], [(zero(1), one(1), [], [])], [], [1]))
        # It is not enough that they are alike now.
        other = (1, [(0, 2)], [(1, (0,))], [1])
        self.check(False, circuit, other, ([], [(zero(1), one(1), [0], [])], [], [1]))
        self.check(False, circuit, other, ([], [(zero(1), one(1), [1], [1])], [], [1]))
        # One held in vain among good ones.
        two = (1, [(0, 0), (0, 0)], [], [1])
        good = (zero(1), one(1), [0], [])
        self.check(True, two, two, ([], [good, (zero(2), one(2), [0], [])], [], [1]))
        self.check(False, two, two, ([], [good, (zero(2), one(2), [2], [])], [], [1]))

    def test_the_next_turn_goes_by_nexts_and_tables(self):
        # Memories 1 and 2 have the nexts 0 and 1; the gates are a both, a not, a 1, and one that hangs on nothing.
        circuit = (1, [(0, 0), (0, 1)], [(8, (1, 2)), (1, (1,)), (1, ()), (15, (1, 2))], [])
        helpers = [(8, (zero(1), zero(2))), (1, (one(1),)), (1, ())]
        for spots in ((zero(3), one(3)), (zero(3), zero(3)), (aid(0), one(3)), (aid(0), zero(3))):
            self.check(True, circuit, circuit, (helpers, [(zero(1), one(1), [0], []), spots + ([0, 1], [])], [], []))
        for spots in ((zero(4), one(4)), (aid(1), zero(4)), (aid(1), one(4)), (zero(5), one(5)), (aid(2), zero(5))):
            self.check(True, circuit, circuit, (helpers, [spots + ([0], [])], [], []))
        # Places that a table does not hang on are wanted too.
        self.check(True, circuit, circuit, (helpers, [(zero(6), zero(5), [zero(0), zero(1)], [])], [], []))
        self.check(False, circuit, circuit, (helpers, [(zero(6), zero(5), [zero(0)], [])], [], []))
        self.check(False, circuit, circuit, (helpers, [(zero(6), zero(5), [zero(6)], [])], [], []))
        # Bits of free stand for now, not for the next turn.
        self.check(False, circuit, circuit, (helpers, [(zero(3), one(3), [zero(3), one(3)], [1])], [], []))
        self.check(True, circuit, circuit, (helpers, [(zero(5), one(5), [zero(5)], [])], [], []))

    def test_held_ones_lean_on_claims_and_on_one_another(self):
        # Each one's memories are exchanged at each turn.
        swap = (0, [(0, 1), (0, 0)], [], [0, 1])
        self.check(True, swap, swap, ([], [(zero(0), one(0), [1], []), (zero(1), one(1), [0], [])], [], [0, 1]))
        self.check(False, swap, swap, ([], [(zero(0), one(0), [0], []), (zero(1), one(1), [0], [])], [], [0, 1]))
        gated = (1, [(0, 2)], [(6, (0, 1))], [1])
        self.check(True, gated, gated, ([], [(zero(1), one(1), [2], [])], [(zero(2), one(2), [0, 1], [])], [1]))
        self.check(True, gated, gated, ([], [(zero(1), one(1), [zero(2), one(2)], [2])], [(zero(2), one(2), [0, 1], [])], [1]))
        self.check(True, gated, gated, ([], [(zero(1), one(1), [zero(0), zero(1)], [0, 1])], [], [1]))

    def test_ends_name_the_outs_in_this_order(self):
        circuit = (2, [], [(8, (0, 1)), (8, (0, 1))], [2, 0])
        claims = [(zero(2), one(2), [0, 1], []), (one(2), zero(2), [0, 1], []), (zero(2), one(3), [0, 1], []),
                  (zero(3), one(2), [0, 1], []), (zero(2), zero(2), [zero(2)], []), (zero(0), one(0), [0], [])]
        for first in range(8):
            for second in range(8):
                self.check(first == 2 and second in (0, 7), circuit, circuit, ([], [], claims, [first, second]))
        other = (2, [], [(8, (0, 1)), (8, (0, 1))], [3, 0])
        self.check(True, circuit, other, ([], [], claims, [4, 0]))
        self.check(False, circuit, other, ([], [], claims, [5, 0]))
        self.check(True, other, circuit, ([], [], claims, [5, 0]))
        self.check(False, other, circuit, ([], [], claims, [4, 0]))


class Paperwork:
    """Makes up statements over two circuits, some of them shown."""

    def __init__(self, seed):
        self.chance = chance = Random(seed)
        ins = chance.randint(0, 2)
        self.circuits = [made_up_circuit(chance, ins, chance.randint(0, 2), chance.randint(1, 4), 0) for k in range(2)]
        if chance.random() < 0.6:
            self.circuits[1] = self.circuits[0]
        self.sizes = [ins + len(memories) + len(gates) for ins, memories, gates, outs in self.circuits] + [0]
        self.helpers = []
        for k in range(chance.randint(0, 3)):
            many = chance.randint(0, 3)
            self.helpers.append((chance.randrange(2 ** 2 ** many), tuple([self.spot() for place in range(many)])))
            self.sizes[2] += 1

    def spot(self):
        which = self.chance.choice([which for which in range(3) if self.sizes[which]])
        return (which, self.chance.randrange(self.sizes[which]))

    def statement(self, below):
        """A statement that may name others below a number."""
        chance = self.chance
        first = self.spot()
        second = (1 - first[0], first[1]) if chance.random() < 0.5 and first[0] < 2 else self.spot()
        if not second[1] < self.sizes[second[0]]:
            second = first
        free = [chance.randrange(below) if below and chance.random() < 0.6 else self.spot() for k in range(chance.randint(0, 5))]
        given = [chance.randrange(below) for k in range(chance.choice((0, 0, 1, 2, 3)) if below else 0)]
        return (first, second, free, given)


class MadeUp(Checks):
    def agrees(self, work, held, claims):
        paper = (work.helpers, held, claims, [])
        taken = looked(*work.circuits, paper)
        self.assertEqual(taken, PaperModel(*work.circuits, paper).taken(), (work.circuits, paper))
        return taken

    def test_claims(self):
        taken = []
        for seed in range(1500):
            work = Paperwork(seed)
            claims = []
            for k in range(4):
                claim = work.statement(work.circuits[0][0] + len(claims))
                taken.append(self.agrees(work, [], claims + [claim]))
                if taken[-1]:
                    claims.append(claim)
        self.assertGreater(taken.count(True), 600)
        self.assertGreater(taken.count(False), 600)

    def test_held(self):
        taken = []
        for seed in range(5000, 7500):
            work = Paperwork(seed)
            held = []
            for k in range(4):
                statement = work.statement(work.circuits[0][0] + len(held) + 1)
                taken.append(self.agrees(work, held + [statement], []))
                if taken[-1]:
                    held.append(statement)
            # Claims may lean on what is held.
            for k in range(2):
                self.agrees(work, held, [work.statement(work.circuits[0][0] + len(held))])
        self.assertGreater(taken.count(True), 600)
        self.assertGreater(taken.count(False), 600)


class Same(Checks):
    """Whatever is taken: both circuits tell the same."""

    def test_no_paper_is_taken_for_circuits_that_are_parted(self):
        chance = Random(3)
        same = changed = 0
        for k in range(600):
            circuit = made_up_circuit(chance, 2, 2, 7, 2)
            paper = paper_of_itself(circuit) if chance.random() < 0.5 else paper_by_helpers(circuit)
            other = self.changed(chance, circuit)
            taken = looked(circuit, other, paper)
            self.assertEqual(taken, PaperModel(circuit, other, paper).taken())
            if parted(circuit, other) is not None:
                self.assertIs(taken, False, (circuit, other, paper))
                changed += 1
            if taken:
                rows = [[chance.randrange(2), chance.randrange(2)] for row in range(30)]
                self.assertEqual(run_bits(circuit, rows), run_bits(other, rows))
                same += 1
        self.assertGreater(changed, 100)
        self.assertGreater(same, 30)

    def changed(self, chance, circuit):
        """A circuit with one gate's table, one begin, one next or one out changed, perhaps to what it was."""
        ins, memories, gates, outs = deepcopy(circuit)
        kind = chance.randrange(4)
        if kind == 0:
            at = chance.randrange(len(gates))
            gates[at] = (chance.randrange(2 ** 2 ** len(gates[at][1])), gates[at][1])
        elif kind == 1:
            memories[0] = (chance.randrange(2), memories[0][1])
        elif kind == 2:
            memories[1] = (memories[1][0], chance.randrange(11))
        else:
            outs[0] = chance.randrange(11)
        return (ins, memories, gates, outs)

    def test_two_ways_to_tell_the_same(self):
        rows = [[bit] for bit in (0, 1, 1, 0, 1, 0, 0, 1, 1, 1, 0)]
        self.assertIs(looked(TOGGLE, NOT_TOGGLE, TOGGLES_PAPER), True)
        self.assertEqual(run_bits(TOGGLE, rows), run_bits(NOT_TOGGLE, rows))
        self.assertIsNone(parted(TOGGLE, NOT_TOGGLE))
        wrong = (1, [(0, 2)], [(6, (0, 1)), (1, (1,))], [3])
        self.assertIs(looked(TOGGLE, wrong, TOGGLES_PAPER), False)
        self.assertIsNotNone(parted(TOGGLE, wrong))
