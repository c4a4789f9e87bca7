"""The whole: from texts to the gates of a shelf, and nothing changed on the way."""

from copy import deepcopy
from random import Random

from gatepapers.circuits import depth, is_circuit, run_bits
from gatepapers.errors import GateError, NoName, NoShelf, NoText, NoWidth, TooGreat, Twice
from gatepapers.few import fewest
from gatepapers.flat import flat
from gatepapers.kinds import ins_of, look_over, outs_of
from gatepapers.lay import laid
from gatepapers.move import moved
from gatepapers.papers import looked
from gatepapers.plain import is_plain, plain
from gatepapers.reading import read
from gatepapers.tidy import tidied
from gatepapers.turns import run
from gatepapers.whole import all_looked, through
from tests.helper import ODD_THINGS, Checks, Maker, made_up_rows, made_up_shelf, small_circuit, text_of, to_bits

SHELF = [("inv", 1, 1, 2), ("and", 2, 8, 3), ("nand", 2, 7, 2), ("xor", 2, 6, 5), ("mux", 3, 216, 5), ("maj", 3, 232, 6)]
LEAST = SHELF[:2]

# Texts with moves and with fewest, with one of them, and with neither.
BOTH = "part main in x 1 memory a 1 0 x memory b 1 1 a out y (not (xor (and b a) (or b (not a)))) end"
ROOMS = "part main in x 1 rooms q a b c d e go q a b x go q b c x go q c d x go q d e x out y (at q e) end"
MOVES_ALONE = "part main in x 4 memory m 4 0 x memory n 4 3 m out y (cut (not (and (xor m n) (or n (not m)))) 0 1) end"
FEWEST_ALONE = ("part main in x 3 memory m 5 9 (plus (xor m (join x (number 2 2))) (not m)) out y m "
                "out z (less (plus m m) (minus (join (number 2 1) x) m)) out v (minus (join x (cut m 0 2)) m) "
                "out w (plus (xor m (number 5 21)) (join (cut m 3 2) x)) "
                "out u (plus (minus (join x (number 2 3)) m) (join (cut x 1 2) x)) end")
NEITHER = ("part add in x 8 in y 8 memory m 8 7 (plus (xor m x) y) out z (if (less m x) (minus m y) (plus x m)) end "
           "part main in x 8 use u add x (not x) use v add (of u z) x out y (of v z) end")
SMALL = "part main out y (number 1 1) end"
NO_OUTS = "part main in x 2 memory m 2 1 (plus m x) end"
USES = ("part flip in x 1 memory m 1 0 (xor m x) out y m end "
        "part main in x 1 use a flip x use b flip (of a y) use c flip (of b y) out y (of c y) out z (of b y) end")


def expected(program, shelf):
    """What through tells, pass by pass."""
    first = flat(program)
    links = [tidied(first)]
    if len(links[-1][0][2]) <= 40:
        links = links + moved(links[-1][0])[0]
    links.append(tidied(links[-1][0]))
    if links[-1][0][0] <= 3 and len(links[-1][0][1]) <= 5:
        links.append(fewest(links[-1][0])[:2])
    links.append(tidied(links[-1][0]))
    links.append(plain(links[-1][0]))
    new, names, prices, paper = laid(links[-1][0], shelf)
    return (first, links + [(new, paper)], names)


def bits_of_row(numbers, widths):
    return [bit for number, width in zip(numbers, widths) for bit in to_bits(number, width)]


def run_by_names(circuit, names, shelf, rows):
    """A laid circuit run by the tables of the shelf gates of these names alone."""
    ins, memories, gates, outs = circuit
    tables = {name: table for name, many, table, cost in shelf}
    named = [(tables[name] if name else table, places) for (table, places), name in zip(gates, names)]
    return run_bits((ins, memories, named, outs), rows)


class Whole(Checks):
    def check(self, program, shelf, seed=1):
        """That a program comes to gates by all passes, and that both tell the same; the links told."""
        first, links, names = through(program, shelf)
        self.assertEqual((first, links, names), expected(program, shelf))
        self.assertIs(all_looked(first, links), True)
        self.assertTrue(all([is_circuit(circuit) for circuit, paper in links]))
        name = program[-1][0]
        ins, outs = [[width for one, width in widths] for widths in (ins_of(program, name), outs_of(program, name))]
        chance = Random(seed)
        rows = [[chance.randrange(2 ** width) for width in ins] for turn in range(25)]
        wanted = [bits_of_row(told, outs) for told in run(program, rows)]
        bits = [bits_of_row(row, ins) for row in rows]
        self.assertEqual(run_bits(first, bits), wanted)
        self.assertEqual(run_by_names(links[-1][0], names, shelf, bits), wanted)
        for circuit, paper in links:
            self.assertEqual(run_bits(circuit, bits), wanted)
        return links

    def links_of(self, text, shelf=SHELF):
        return self.check(read(text), shelf)

    def test_all_passes(self):
        links = self.links_of(BOTH)
        moves = len(moved(links[0][0])[0])
        self.assertGreater(moves, 0)
        self.assertEqual(len(links), 6 + moves)
        self.assertIs(is_plain(links[-2][0]), True)
        self.links_of(ROOMS)

    def test_moves_alone(self):
        links = self.links_of(MOVES_ALONE)
        moves = len(moved(links[0][0])[0])
        self.assertGreater(moves, 0)
        self.assertGreater(links[0][0][0], 3)
        self.assertEqual(len(links), 5 + moves)
        self.assertLess(depth(links[moves][0]), depth(links[0][0]))

    def test_fewest_alone(self):
        links = self.links_of(FEWEST_ALONE)
        self.assertGreater(len(links[0][0][2]), 40)
        self.assertEqual((links[0][0][0], len(links[0][0][1])), (3, 5))
        self.assertEqual(len(links), 6)

    def test_neither(self):
        links = self.links_of(NEITHER)
        self.assertGreater(len(links[0][0][2]), 40)
        self.assertGreater(links[0][0][0], 3)
        self.assertEqual(len(links), 5)

    def test_forty_gates_and_forty_one(self):
        # Each out has a gate for each of its bits, and none of them is another one's.
        outs = "out a (and x y) out b (or x y) out c (xor x y) out d (and y z) out e (and x z)"
        for more, many in (("", 40), (" out f (and (cut x 0 1) (cut z 7 1))", 41)):
            program = read(f"part main in x 8 in y 8 in z 8 {outs}{more} end")
            self.assertEqual(len(tidied(flat(program))[0][2]), many)
            self.check(program, SHELF)
        # With memories ahead of them there are moves to be done, for forty gates alone.
        for more, many in (("", 40), (" out f (and (cut m 0 1) (cut n 7 1))", 41)):
            program = read("part main in x 8 memory m 8 0 x memory n 8 1 m out a (and m n) out b (or m n) out c (xor m n) "
                           f"out d (and (xor m n) x) out e (or (xor m n) x){more} end")
            links = self.check(program, SHELF)
            self.assertEqual((len(links[0][0][2]), len(links) > 5), (many, many == 40))

    def test_three_ins_and_five_memories(self):
        for ins, memories, let in ((3, 5, True), (4, 5, False), (3, 6, False)):
            # Memories that are told, each by itself: so tidied leaves them all.
            program = read(f"part main in x {ins} memory m {memories} 1 (plus m (join (cut x 0 3) (number "
                           f"{memories - 3} 1))) out y m out z x end")
            first, links, names = through(program, SHELF)
            moves = len(moved(links[0][0])[0]) if len(links[0][0][2]) <= 40 else 0
            tidy = links[moves + 1][0]
            self.assertEqual((tidy[0], len(tidy[1])), (ins, memories))
            self.assertEqual(len(links), (6 if let else 5) + moves)
            self.check(program, SHELF)

    def test_small_ones(self):
        for text in (SMALL, NO_OUTS, USES):
            self.links_of(text)
            self.links_of(text, LEAST)
        first, links, names = through(read(SMALL), LEAST)
        self.assertEqual((links[-1][0], names), ((0, [], [(1, ())], [0]), [""]))
        first, links, names = through(read(NO_OUTS), LEAST)
        self.assertEqual((links[-1][0], names), ((2, [], [], []), []))

    def test_made_up(self):
        chance = Random(91)
        lengths = set()
        for seed in range(140):
            maker = Maker(seed)
            program = maker.program()
            try:
                look_over(program)
            except GateError:
                continue
            links = self.check(program, made_up_shelf(chance) if seed % 3 else SHELF, seed)
            lengths.add(len(links))
        self.assertTrue({5, 6} < lengths, lengths)

    def test_from_text_to_gates(self):
        many = 0
        for seed in range(200, 320):
            program = Maker(seed).program()
            try:
                text = text_of(program)
                self.assertEqual(read(text), program)
                look_over(program)
            except GateError:
                continue
            self.check(read(text), SHELF, seed)
            many += 1
        self.assertGreater(many, 60)

    def test_a_sum(self):
        program = read("part main in x 4 memory sum 4 0 (plus sum x) out y sum end")
        first, links, names = through(program, SHELF)
        rows = [[5], [6], [7], [15]]
        told = run_by_names(links[-1][0], names, SHELF, [to_bits(row[0], 4) for row in rows])
        self.assertEqual(told, [to_bits(number, 4) for number in (0, 5, 11, 2)])
        self.check(program, SHELF)


class Refused(Checks):
    def test_as_the_looks_tell_whatever_the_shelf(self):
        for text, error in (
            ("part a in x 1 end part a in x 1 end", Twice),
            ("part a out y x end", NoName),
            ("part a in x 9 end", NoWidth),
        ):
            for shelf in (SHELF, LEAST, [], None, SHELF[1:], tuple(SHELF), 5, "inv"):
                self.refused(error, through, read(text), shelf)

    def test_too_great(self):
        rows = " ".join([f"use u{name} a (xor x (not x))" for name in "abcdefghijklmnopqrst"])
        program = read(f"part a in x 1 out y (not (not (not (not x)))) end part main in x 1 {rows} end")
        for shelf in (SHELF, None, []):
            self.refused(TooGreat, through, program, shelf)

    def test_no_shelf(self):
        program = read(BOTH)
        for thing in ODD_THINGS + [SHELF[:1], SHELF + SHELF, [list(gate) for gate in SHELF], 0, "", SHELF + [None]]:
            self.refused(NoShelf, through, program, thing)

    def test_what_is_no_text(self):
        self.refused(NoText, read, "part main in x 4 out y x")


class AllLooked(Checks):
    def test_no_links(self):
        self.assertIs(all_looked((0, [], [], []), []), True)
        self.assertIs(all_looked(flat(read(BOTH)), []), True)

    def test_links_of_passes(self):
        first, links, names = through(read(BOTH), SHELF)
        self.assertIs(all_looked(first, links), True)
        for k in range(len(links)):
            self.assertIs(all_looked(first, links[:k]), True)

    def test_another_first_circuit(self):
        first, links, names = through(read(BOTH), SHELF)
        self.assertIs(all_looked(flat(read(USES)), links), False)
        self.assertIs(all_looked((0, [], [], []), links), False)
        ins, memories, gates, outs = first
        self.assertIs(all_looked((ins, [(1 - begin, after) for begin, after in memories], gates, outs), links), False)

    def test_one_paper_put_otherwise(self):
        for text in (BOTH, ROOMS, NEITHER):
            first, links, names = through(read(text), SHELF)
            for k, (circuit, paper) in enumerate(links):
                for other in (None, 0, (), ([], [], [], []), paper[:3], list(paper), paper[:3] + ([],),
                              paper[:3] + ([10 ** 6] * len(paper[3]),), paper[:2] + ([], paper[3])):
                    if other != paper:
                        spoilt = links[:k] + [(circuit, other)] + links[k + 1:]
                        self.assertIs(all_looked(first, spoilt), False, (k, other))

    def test_one_circuit_put_otherwise(self):
        for text in (BOTH, USES):
            first, links, names = through(read(text), SHELF)
            for k, (circuit, paper) in enumerate(links):
                ins, memories, gates, outs = circuit
                for other in ((ins + 1, memories, gates, outs), (ins, memories, gates, outs + outs[:1]),
                              (ins, memories, gates, outs[:-1]), (ins, [], [(0, ())], [ins] * len(outs))):
                    self.assertIs(all_looked(first, links[:k] + [(other, paper)] + links[k + 1:]), False)

    def test_links_in_another_order(self):
        first, links, names = through(read(BOTH), SHELF)
        for k in range(len(links)):
            for j in range(k):
                other = list(links)
                other[k], other[j] = links[j], links[k]
                if links[k][0] != links[j][0]:
                    self.assertIs(all_looked(first, other), False, (j, k))
        self.assertIs(all_looked(first, links[1:]), False)
        self.assertIs(all_looked(first, links[::-1]), False)

    def test_it_is_looked_at_each_link(self):
        chance = Random(92)
        for k in range(40):
            circuit = small_circuit(chance, (2, 3, 6, 2))
            one = tidied(circuit)
            links = [one, plain(one[0])]
            self.assertIs(all_looked(circuit, links), True)
            # Links of another circuit.
            other = small_circuit(chance, (2, 3, 6, 2))
            wanted = looked(other, one[0], one[1]) and looked(one[0], links[1][0], links[1][1])
            self.assertIs(all_looked(other, links), wanted)

    def test_what_is_handed_in_stays(self):
        first, links, names = through(read(BOTH), SHELF)
        self.own_lists(all_looked, first, links)
        kept = deepcopy((first, links))
        all_looked(first, links)
        self.assertEqual((first, links), kept)


class Own(Checks):
    def test_own_lists(self):
        for text in (BOTH, ROOMS, MOVES_ALONE, SMALL, NO_OUTS):
            self.own_lists(through, read(text), SHELF)

    def test_what_is_done_later_changes_nothing(self):
        program, shelf = read(BOTH), list(SHELF)
        told = through(program, shelf)
        kept = deepcopy(told)
        program.clear()
        shelf.clear()
        self.assertEqual(told, kept)
        rows = made_up_rows(Random(93), 1, 20)
        self.assertEqual(run_bits(told[0], rows), run_bits(told[1][-1][0], rows))
