"""Shelves, cuts, and plain circuits laid on a shelf's gates."""

from itertools import permutations
from random import Random

from gatepapers.circuits import is_circuit, run_bits
from gatepapers.errors import NoShelf, NotPlain
from gatepapers.flat import flat
from gatepapers.judge import parted
from gatepapers.lay import cuts, is_shelf, laid
from gatepapers.plain import is_plain, plain
from gatepapers.reading import read
from gatepapers.tidy import tidied
from tests.helper import (
    ODD_THINGS, Checks, Maker, cuts_by_point, dict_of, list_of, made_up_plain, made_up_shelf, nested, roots_by_point,
    small_circuit, table_by_point, tuple_of,
)

LEAST = [("inv", 1, 1, 1), ("and", 2, 8, 2)]
SHELF = LEAST + [("nand", 2, 7, 1), ("or", 2, 14, 3), ("xor", 2, 6, 4), ("mux", 3, 216, 5), ("maj", 3, 232, 6),
                 ("buf", 1, 2, 1), ("andnot", 2, 2, 2)]


class Shelves(Checks):
    def yes(self, thing):
        self.assertIs(is_shelf(thing), True, thing)

    def no(self, thing):
        """That it is no shelf, and that nothing is laid on it."""
        self.assertIs(is_shelf(thing), False, thing)
        self.refused(NoShelf, laid, (1, [], [(1, (0,))], [1]), thing)

    def test_good_ones(self):
        self.yes(LEAST)
        self.yes(LEAST[::-1])
        self.yes(SHELF)
        many = [("g" + "abcdefghijklmnopqr"[k], 3, 128, 1 + k) for k in range(18)]
        self.yes(LEAST + many)
        self.assertEqual(len(LEAST + many), 20)
        self.yes([("abcdefgh", 1, 1, 1000), ("z", 2, 8, 1)])
        # Several of one table, be they as dear or not.
        self.yes(LEAST + [("invtwo", 1, 1, 1), ("andtwo", 2, 8, 7)])

    def test_how_many(self):
        self.no([])
        self.no(LEAST[:1])
        self.no(LEAST[1:])
        many = [("g" + "abcdefghijklmnopqrs"[k], 2, 14, 1) for k in range(19)]
        self.no(LEAST + many)
        self.yes(LEAST + many[:18])

    def test_each_table(self):
        for many in (1, 2, 3):
            for table in range(-1, 2 ** 2 ** many + 1):
                hangs = 0 <= table < 2 ** 2 ** many and all([
                    any([(table >> t ^ table >> (t ^ 1 << k)) & 1 for t in range(2 ** many)]) for k in range(many)])
                (self.yes if hangs else self.no)(LEAST + [("g", many, table, 3)])

    def test_names(self):
        for name in ("a", "z", "abcdefgh", "part", "end", "not"):
            self.yes(LEAST + [(name, 2, 14, 3)])
        for name in ("", "abcdefghi", "A", "aB", "a1", "1", "a b", " ", "a_", "a-b", "\u00e4", "inv", "and", None, 1, True,
                     b"a", ["a"], ("a",), {"a": 1}):
            self.no(LEAST + [(name, 2, 14, 3)])
        self.no([("inv", 1, 1, 1), ("inv", 2, 8, 1)])

    def test_many(self):
        for many in (0, 4, -1, True, None, "2", 2.0, [2], 10 ** 50):
            self.no(LEAST + [("g", many, 14, 3)])
            self.no(LEAST + [("g", many, 1, 3)])
            self.no(LEAST + [("g", many, 0, 3)])

    def test_costs(self):
        for cost in (1, 2, 999, 1000):
            self.yes(LEAST + [("g", 2, 14, cost)])
        for cost in (0, 1001, -1, 10 ** 50, True, False, None, "1", 1.0, [1], (1,)):
            self.no(LEAST + [("g", 2, 14, cost)])

    def test_truths_in_the_place_of_numbers(self):
        self.no([("inv", True, 1, 1), ("and", 2, 8, 2)])
        self.no([("inv", 1, True, 1), ("and", 2, 8, 2)])
        self.no([("inv", 1, 1, True), ("and", 2, 8, 2)])
        self.no(LEAST + [("g", 1, True, 3)])

    def test_without_a_not_or_a_both(self):
        self.no([("inv", 1, 1, 1), ("or", 2, 14, 2)])
        self.no([("buf", 1, 2, 1), ("and", 2, 8, 2)])
        self.no([("nand", 2, 7, 1), ("or", 2, 14, 2)])
        self.no([("inv", 1, 1, 1), ("more", 3, 8, 2)])
        # Table 1 over two places is no not, table 8 over three no both.
        self.no([("nor", 2, 1, 1), ("and", 2, 8, 2)])

    def test_other_forms(self):
        self.no(tuple(SHELF))
        self.no(dict(enumerate(SHELF)))
        self.no([list(gate) for gate in SHELF])
        self.no([SHELF])
        self.no(SHELF + [None])
        for k in range(4):
            self.no(LEAST + [("g", 2, 14, 3)[:k] + ("g", 2, 14, 3)[k + 1:]])
        self.no(LEAST + [("g", 2, 14, 3, 3)])
        self.no(LEAST + [()])
        self.no(LEAST + [["g", 2, 14, 3]])

    def test_of_anything(self):
        for thing in ODD_THINGS + [0, 1, -1, 10 ** 59, "", "inv", "ab" * 5, nested(99, list_of), nested(99, tuple_of),
                                   nested(99, dict_of)]:
            self.no(thing)
            self.no([thing])
            self.no([thing, thing])
            self.no(LEAST + [thing])
            for k in range(4):
                # A table or a cost of 1 is a good one.
                if type(thing) is not int or thing != 1 or k < 2:
                    self.no(LEAST + [("g", 2, 14, 3)[:k] + (thing,) + ("g", 2, 14, 3)[k + 1:]])

    def test_what_is_handed_in_stays(self):
        self.own_lists(is_shelf, SHELF)
        self.own_lists(is_shelf, [[], [[]]])


class Cuts(Checks):
    def test_roots_and_inner_ones(self):
        circuit = (2, [(0, 5)], [(1, ()), (8, (0, 3)), (1, (4,)), (8, (1, 2)), (1, (6,)), (8, (6, 7)), (8, (5, 8))], [9, 0, 3])
        self.assertEqual(cuts(circuit, 4), [[0, 3]])
        self.assertEqual(cuts(circuit, 5), [[0, 3], [4]])
        self.assertEqual(cuts(circuit, 8), [[6], [6, 7]])
        self.assertEqual(cuts(circuit, 9), [[5, 6], [5, 6, 7], [5, 8]])

    def test_never_more_than_three(self):
        # Gate 6 is of four ins: no cut has them all.
        circuit = (4, [], [(8, (0, 1)), (8, (2, 3)), (8, (4, 5))], [6])
        self.assertEqual(cuts(circuit, 6), [[0, 1, 5], [2, 3, 4], [4, 5]])
        # Three are reached by cuts of at most three: through 4 and a not of 0 first.
        choice = (3, [], [(8, (0, 1)), (1, (0,)), (8, (2, 4)), (1, (3,)), (1, (5,)), (8, (6, 7)), (1, (8,))], [9])
        self.assertIn([0, 1, 2], cuts(choice, 9))
        self.assertEqual(cuts(choice, 9), cuts_by_point(choice, 9))
        # Here three are reached only by way of four, [0, 1, 3, 7], which is no cut: so they are none.
        wide = (2, [], [(8, (0, 1)), (8, (0, 1)), (8, (2, 3)), (8, (0, 1)), (8, (0, 1)), (8, (5, 6)), (8, (4, 7))], [8])
        self.assertEqual(cuts(wide, 8), [[2, 3, 7], [4, 5, 6], [4, 7]])
        self.assertEqual(cuts(wide, 4), [[0, 1], [0, 1, 2], [0, 1, 3], [2, 3]])

    def test_a_row_of_nots(self):
        circuit = (1, [], [(1, (k,)) for k in range(6)], [6])
        for gate in range(1, 7):
            self.assertEqual(cuts(circuit, gate), [[k] for k in range(gate)])

    def test_made_up(self):
        chance = Random(81)
        widths = set()
        for k in range(200):
            circuit = made_up_plain(chance, (3, 3, 12, 2))
            for number, (table, places) in enumerate(circuit[2]):
                if places:
                    gate = circuit[0] + len(circuit[1]) + number
                    told = cuts(circuit, gate)
                    self.assertEqual(told, cuts_by_point(circuit, gate), circuit)
                    for cut in told:
                        self.assertEqual(cut, sorted(set(cut)))
                        widths.add(len(cut))
        self.assertEqual(widths, {1, 2, 3})

    def test_own_lists(self):
        self.own_lists(cuts, (4, [], [(8, (0, 1)), (8, (2, 3)), (8, (4, 5))], [6]), 6)


# Prices by point 32, and all layings by cuts.

def fitting(circuit, shelf, gate, cut):
    """The shelf gates that fit a cut of a gate."""
    table = table_by_point(circuit, gate, cut)
    found = []
    for name, many, own, cost in shelf:
        if many == len(cut) and any([reordered(own, order) == table for order in permutations(range(many))]):
            found.append((name, many, own, cost))
    return found


def reordered(table, order):
    """The table of a gate whose place k is place order[k] of a list of bits."""
    many = len(order)
    found = 0
    for number in range(2 ** many):
        bits = [number >> k & 1 for k in range(many)]
        found += (table >> sum([bits[at] << k for k, at in enumerate(order)]) & 1) << number
    return found


class Prices:
    """The prices of a circuit's gates on a shelf, each asked for by itself."""

    def __init__(self, circuit, shelf):
        self.circuit, self.shelf = circuit, shelf
        self.ahead = circuit[0] + len(circuit[1])
        self.roots = roots_by_point(circuit)
        self.known = {}

    def is_inner(self, place):
        return place >= self.ahead and self.circuit[2][place - self.ahead][1] != () and place not in self.roots

    def price(self, gate):
        if self.circuit[2][gate - self.ahead][1] == ():
            return 0
        if gate not in self.known:
            self.known[gate] = min([cost + sum([self.price(place) for place in cut if self.is_inner(place)])
                                    for cut, cost in self.choices(gate)])
        return self.known[gate]

    def choices(self, gate):
        """The cuts of a gate that something fits, each with the least cost for it."""
        found = []
        for cut in cuts_by_point(self.circuit, gate):
            costs = [cost for name, many, table, cost in fitting(self.circuit, self.shelf, gate, cut)]
            if costs:
                found.append((cut, min(costs)))
        return found

    def all(self):
        return [self.price(self.ahead + k) for k in range(len(self.circuit[2]))]

    def layings(self, wanted, bound=4000):
        """The costs of all layings of the gates wanted and what their cuts need, by all choices of cuts."""
        found = []

        def lay(left, cost):
            if len(found) > bound:
                return
            if not left:
                found.append(cost)
                return
            for cut, own in self.choices(left[0]):
                lay(left[1:] + [place for place in cut if self.is_inner(place)], cost + own)

        lay(list(wanted), 0)
        return found if len(found) <= bound else None


class Laid(Checks):
    # How many circuits were searched through whole, and not left as having too many layings.
    searched = 0

    def check(self, circuit, shelf, model=False, search=False):
        """That a circuit is laid as point 32 tells."""
        new, names, prices, paper = laid(circuit, shelf)
        self.same_by_paper(circuit, new, paper, model)
        self.assertEqual((new[0], len(new[3])), (circuit[0], len(circuit[3])))
        self.assertEqual([begin for begin, after in new[1]], [begin for begin, after in circuit[1]])
        known = Prices(circuit, shelf)
        self.assertEqual(prices, known.all(), circuit)
        self.named(new, names, shelf)
        costs = {name: cost for name, many, table, cost in shelf}
        total = sum([costs[name] for name in names if name])
        self.assertEqual(total, sum([known.price(root) for root in known.roots]))
        if search:
            # Each laying lays each root: their costs are added.
            layings = known.layings(known.roots)
            if layings is not None:
                self.assertEqual(min(layings), total)
                self.searched += 1
        return new, names

    def named(self, new, names, shelf):
        """That each gate is the shelf gate of its name, and those without places have none."""
        self.assertEqual(len(names), len(new[2]))
        gates = {name: (many, table) for name, many, table, cost in shelf}
        for (table, places), name in zip(new[2], names):
            self.assertEqual(name == "", places == ())
            if name:
                self.assertEqual(gates[name], (len(places), table))
                self.assertEqual(len(set(places)), len(places))

    def test_nothing_there(self):
        self.assertEqual(laid((0, [], [], []), LEAST)[:3], ((0, [], [], []), [], []))
        self.assertEqual(laid((2, [(1, 0), (0, 3)], [], [3, 1]), LEAST)[:3], ((2, [(1, 0), (0, 3)], [], [3, 1]), [], []))
        self.check((2, [(1, 0)], [], [2]), LEAST)

    def test_no_outs(self):
        # Gate 2 is inner, and in no cut that is chosen: it isn't laid, but has a price.
        new, names, prices, paper = laid((2, [], [(8, (0, 1))], []), LEAST)
        self.assertEqual((new, names, prices), ((2, [], [], []), [], [2]))
        self.check((2, [(0, 3)], [(8, (0, 2))], []), LEAST)

    def test_gates_without_places(self):
        circuit = (1, [(0, 3)], [(1, ()), (0, ()), (8, (0, 2)), (1, (3,))], [2, 4, 5])
        new, names = self.check(circuit, SHELF, model=True)
        self.assertEqual(sorted(names[:2]), ["", ""])
        self.assertEqual(laid(circuit, SHELF)[2], [0, 0, 2, 1])

    def test_one_gate(self):
        for circuit, name, cost in (((2, [], [(8, (0, 1))], [2]), "and", 2), ((2, [], [(1, (1,))], [2]), "inv", 1)):
            new, names, prices, paper = laid(circuit, LEAST)
            self.assertEqual((new, names, prices), (circuit, [name], [cost]))
        cheap = LEAST + [("copy", 2, 8, 1), ("turn", 1, 1, 5)]
        self.assertEqual(laid((2, [], [(8, (0, 1))], [2]), cheap)[1:3], (["copy"], [1]))

    def test_a_cut_that_is_cheaper(self):
        nand = (2, [], [(8, (0, 1)), (1, (2,))], [3])
        self.assertEqual(laid(nand, LEAST)[:3], (nand, ["and", "inv"], [2, 3]))
        self.assertEqual(laid(nand, SHELF)[:3], ((2, [], [(7, (0, 1))], [2]), ["nand"], [2, 1]))
        # Where the both is an out, too, it is a root, and no cut goes through it.
        both = (2, [], [(8, (0, 1)), (1, (2,))], [3, 2])
        self.assertEqual(laid(both, SHELF)[:3], ((2, [], [(8, (0, 1)), (1, (2,))], [3, 2]), ["and", "inv"], [2, 1]))
        # Where it is dearer than both gates, it is not taken.
        dear = LEAST + [("nand", 2, 7, 4)]
        self.assertEqual(laid(nand, dear)[1], ["and", "inv"])

    def test_an_order_that_fits(self):
        # The first in and not the second: fits with its places the other way about.
        circuit = (2, [], [(1, (1,)), (8, (0, 2))], [3])
        other = (2, [], [(1, (0,)), (8, (1, 2))], [3])
        shelf = LEAST + [("less", 2, 4, 1)]
        self.assertEqual(laid(circuit, shelf)[0][2], [(4, (1, 0))])
        self.assertEqual(laid(other, shelf)[0][2], [(4, (0, 1))])
        self.check(circuit, shelf, model=True)
        self.check(other, shelf, model=True)

    def test_gates_of_three_places(self):
        # A choice by each of three places, against the shelf's gate in all orders.
        for first in range(3):
            for second in range(3):
                if second != first:
                    third = 3 - first - second
                    gates = [(1, (first,)), (8, tuple(sorted((first, second)))), (8, (third, 3)), (1, (4,)), (1, (5,)),
                             (8, (6, 7)), (1, (8,))]
                    circuit = (3, [], gates, [9])
                    self.assertTrue(is_circuit(circuit) and is_plain(circuit))
                    for order in permutations(range(3)):
                        shelf = [("inv", 1, 1, 90), ("and", 2, 8, 90), ("mux", 3, reordered(216, order), 5)]
                        new, names = self.check(circuit, shelf)
                        self.assertEqual(names, ["mux"])
                        self.assertIsNone(parted(circuit, new))

    def test_several_that_fit_at_one_cost(self):
        shelf = LEAST + [("one", 2, 7, 1), ("two", 2, 7, 1), ("three", 3, 128, 4), ("four", 3, 128, 4)]
        circuit = (3, [], [(8, (0, 1)), (8, (2, 3)), (1, (4,))], [5, 4])
        new, names = self.check(circuit, shelf, search=True)
        self.assertIn(names[0], ("three", "four", "and"))
        self.check((2, [], [(8, (0, 1)), (1, (2,))], [3]), shelf, search=True)

    def test_roots_alone_are_laid_and_what_they_need(self):
        # Gate 3 is inner in a cut that isn't chosen, gate 5 stands in no cut at all.
        circuit = (2, [], [(8, (0, 1)), (1, (2,)), (1, (1,))], [3])
        new, names = self.check(circuit, SHELF)
        self.assertEqual(names, ["nand"])
        new, names = self.check(circuit, LEAST)
        self.assertEqual(names, ["and", "inv"])

    def test_memories(self):
        circuit = (1, [(0, 4), (1, 3)], [(8, (0, 1)), (1, (3,)), (8, (2, 4)), (1, (5,))], [6])
        self.check(circuit, SHELF, model=True, search=True)
        self.check(circuit, LEAST, model=True, search=True)

    def test_refused(self):
        good = (2, [], [(8, (0, 1))], [2])
        bad = (2, [], [(6, (0, 1))], [2])
        self.refused(NotPlain, laid, bad, SHELF)
        self.refused(NoShelf, laid, good, SHELF[:1])
        # Where both are so, with NotPlain.
        for thing in (SHELF[:1], None, [], "ab", 5):
            self.refused(NotPlain, laid, bad, thing)
            self.refused(NoShelf, laid, good, thing)
        for gate in ((2, (0,)), (8, (1, 0)), (8, (1, 1)), (14, (0, 1)), (128, (0, 1, 1))):
            self.refused(NotPlain, laid, (2, [], [gate], []), LEAST)

    def test_made_up(self):
        chance = Random(82)
        for k in range(250):
            circuit = made_up_plain(chance, (3, 3, 9, 3))
            self.check(circuit, made_up_shelf(chance), model=k % 10 == 0, search=True)
        self.assertGreater(self.searched, 200)
        for k in range(40):
            self.check(made_up_plain(chance, (4, 3, 30, 4)), made_up_shelf(chance))

    def test_circuits_made_plain(self):
        chance = Random(83)
        for k in range(80):
            circuit = plain(small_circuit(chance, (3, 3, 5, 2)))[0]
            self.check(circuit, made_up_shelf(chance) if k % 2 else SHELF, search=True)

    def test_flat_circuits(self):
        for seed in range(15):
            circuit = plain(tidied(flat(Maker(seed).program()))[0])[0]
            new, names, prices, paper = laid(circuit, SHELF)
            self.same_by_paper(circuit, new, paper, model=False)
            self.named(new, names, SHELF)
        # A choice is one gate of the shelf, four times.
        circuit = plain(flat(read("part main in c 1 in x 4 in y 4 out z (if c x y) end")))[0]
        self.assertEqual(laid(circuit, LEAST + [("mux", 3, 216, 3)])[1], ["mux"] * 4)

    def test_a_spoilt_circuit_is_not_taken(self):
        circuit = (1, [(0, 4), (1, 3)], [(8, (0, 1)), (1, (3,)), (8, (2, 4)), (1, (5,))], [6])
        new, names, prices, paper = laid(circuit, SHELF)
        self.assertGreater(self.not_taken_spoilt(circuit, new, paper), 3)

    def test_run(self):
        chance = Random(84)
        for k in range(30):
            circuit = made_up_plain(chance, (2, 3, 10, 3))
            rows = [[chance.randrange(2) for bit in range(circuit[0])] for row in range(40)]
            self.assertEqual(run_bits(circuit, rows), run_bits(laid(circuit, SHELF)[0], rows))

    def test_own_lists(self):
        self.own_lists(laid, (1, [(0, 4), (1, 3)], [(8, (0, 1)), (1, (3,)), (8, (2, 4)), (1, (5,)), (1, ())], [6, 7]), SHELF)
        self.own_lists(laid, (0, [], [], []), LEAST)
