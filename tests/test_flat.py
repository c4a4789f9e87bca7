"""Flat circuits: they tell, turn by turn, the bits of what the program tells."""

from itertools import product
from random import Random

from gatepapers.circuits import is_circuit, run_bits
from gatepapers.flat import flat
from gatepapers.kinds import ins_of, look_over, outs_of, weight
from gatepapers.reading import read
from gatepapers.turns import run
from tests.helper import Checks, Maker, to_bits


def numbers(width):
    """All numbers of a small width, the edges and some between of a great one."""
    top = 2 ** width
    if width <= 3:
        return list(range(top))
    return sorted({0, 1, 2, 5, top // 2 - 1, top // 2, top // 2 + 1, top * 2 // 3, top - 2, top - 1})


def bits_row(row, widths):
    """The bits of a row of numbers, each from the lowest on."""
    return [bit for number, width in zip(row, widths) for bit in to_bits(number, width)]


class Flats(Checks):
    def agrees(self, program, rows):
        """That the flat circuit is of the form told, and tells what the program tells over these rows of ins."""
        name = program[-1][0]
        ins = [width for one, width in ins_of(program, name)]
        outs = [width for one, width in outs_of(program, name)]
        circuit = flat(program)
        self.assertIs(is_circuit(circuit), True)
        self.assertEqual(circuit[0], sum(ins))
        self.assertEqual(len(circuit[3]), sum(outs))
        self.assertLessEqual(len(circuit[2]), 20 * weight(program, name))
        wanted = [bits_row(row, outs) for row in run(program, rows)]
        self.assertEqual(run_bits(circuit, [bits_row(row, ins) for row in rows]), wanted)

    def text_agrees(self, text, rows):
        program = read(text)
        look_over(program)
        self.agrees(program, rows)

    def any_rows(self, program, many, seed=0):
        chance = Random(seed)
        widths = [width for one, width in ins_of(program, program[-1][0])]
        return [[chance.randrange(2 ** width) for width in widths] for k in range(many)]


class Expressions(Flats):
    def over(self, expression, widths):
        """That the flat circuit tells this expression over ins a, b, c of such widths."""
        ins = " ".join([f"in {name} {width}" for name, width in zip("abc", widths)])
        rows = [list(row) for row in product(*[numbers(width) for width in widths])]
        self.text_agrees(f"part main {ins} out y {expression} end", rows)

    def test_one_for_two_of_one_width(self):
        for word in ("and", "or", "xor", "plus", "minus", "same", "less"):
            for width in range(1, 9):
                self.over(f"({word} a b)", [width, width])
                self.over(f"({word} a a)", [width])
                self.over(f"({word} b a)", [width, width])

    def test_all_numbers(self):
        for word in ("plus", "minus", "same", "less"):
            for width in (4, 5):
                rows = [list(row) for row in product(range(2 ** width), repeat=2)]
                self.text_agrees(f"part main in a {width} in b {width} out y ({word} a b) end", rows)

    def test_names_and_nots(self):
        for width in range(1, 9):
            self.over("a", [width])
            self.over("b", [width, 9 - width])
            self.over("(not a)", [width])
            self.over("(not (not a))", [width])

    def test_ifs(self):
        for width in range(1, 9):
            self.over("(if a b c)", [1, width, width])
            self.over("(if (less b c) c b)", [1, width, width])

    def test_joins(self):
        for low in range(1, 8):
            for high in range(1, 9 - low):
                self.over("(join a b)", [low, high])

    def test_cuts(self):
        for width in range(1, 9):
            for low in range(width):
                for many in range(1, width - low + 1):
                    self.over(f"(cut a {low} {many})", [width])

    def test_numbers(self):
        for width in range(1, 9):
            for number in range(2 ** width):
                self.text_agrees(f"part main out y (number {width} {number}) end", [[], []])
            for number in numbers(width):
                self.over(f"(plus a (number {width} {number}))", [width])
                self.over(f"(if a (number {width} {number}) b)", [1, width])

    def test_within_one_another(self):
        self.over("(if (less a b) (minus b a) (minus a b))", [4, 4])
        self.over("(join (cut a 2 2) (cut (plus a b) 0 2))", [4, 4])
        self.over("(and (xor (plus a b) a) (not b))", [5, 5])
        self.over("(less (plus a b) a)", [8, 8])
        self.over("(same (minus a b) (number 3 7))", [3, 3])

    def test_several_ins_and_outs_in_the_rows_order(self):
        text = ("part main out y (join b a) in b 3 out z a in a 2 wire w (plus b c) in c 3 out x w out v (less b c) end")
        program = read(text)
        look_over(program)
        rows = [list(row) for row in product(range(8), range(4), range(8))]
        self.agrees(program, rows)
        circuit = flat(program)
        self.assertEqual((circuit[0], len(circuit[3])), (8, 11))
        bits = run_bits(circuit, [[1, 0, 0, 0, 1, 0, 1, 0]])
        self.assertEqual(bits, [[1, 0, 0, 0, 1, 0, 1, 1, 1, 0, 1]])


class Memories(Flats):
    def test_all_first_numbers(self):
        for width in range(1, 9):
            for number in range(2 ** width):
                self.text_agrees(f"part main in x {width} memory m {width} {number} (plus m x) out y m end",
                                 [[1], [0], [2 ** width - 1], [2 ** width // 2]])

    def test_all_take_what_stood_ahead(self):
        self.text_agrees("part main memory a 2 0 b memory b 2 1 c memory c 2 2 a out x a out y b out z c end", [[]] * 5)
        self.text_agrees("part main in x 3 memory a 3 5 x memory b 3 6 a memory c 3 1 b out y c end",
                         [[1], [7], [0], [4], [2], [3], [0]])

    def test_of_wires_and_uses_of_later_rows(self):
        part = "part p in a 2 memory k 2 1 a out y (plus a k) end "
        program = read(part + "part main out o (xor m w) memory m 2 0 (of u y) out z (of u y) memory n 2 3 w "
                              "wire w (xor x n) use u p w in x 2 end")
        look_over(program)
        self.agrees(program, [[number] for number in (1, 2, 3, 0, 0, 1, 3, 3, 2, 0)])

    def test_no_outs_no_ins_no_memories(self):
        for text, rows in [
            ("part main in x 3 end", [[5], [0]]), ("part main memory m 1 0 m end", [[], []]),
            ("part main rooms q a b end", [[]]), ("part main in x 2 memory m 2 1 (plus m x) end", [[1], [2]]),
            ("part main memory m 2 1 (plus m m) out y m end", [[]] * 4), ("part main out y (number 3 5) end", [[]] * 3),
            ("part main in x 2 out y (not x) end", [[0], [1], [2], [3]]), ("part main rooms q a end", [[]]),
            ("part main wire w (number 2 1) end", [[], []]), ("part main in x 1 out y x out z x end", [[0], [1]]),
        ]:
            self.text_agrees(text, rows)
            self.agrees(read(text), [])


class Rooms(Flats):
    LETTERS = "abcdefgh"

    def machine(self, many, ways):
        """A program with so many rooms, and go rows by ways, tuples of two rooms' numbers and an expression."""
        names = tuple(self.LETTERS[:many])
        rows = [("in", "x", 2), ("rooms", "q", names)]
        rows += [("go", "q", names[one], names[other], condition) for one, other, condition in ways]
        rows += [("out", name, ("at", "q", name)) for name in names]
        program = [("main", rows)]
        look_over(program)
        return program

    def test_one_to_eight_rooms(self):
        low, high = ("cut", ("name", "x"), 0, 1), ("cut", ("name", "x"), 1, 1)
        for many in range(1, 9):
            ways = [(k, (k + 1) % many, low) for k in range(many)] + [(k, k * 3 % many, high) for k in range(many)]
            program = self.machine(many, ways)
            self.agrees(program, self.any_rows(program, 60, many))

    def test_from_each_room_to_each(self):
        for many in range(1, 9):
            for one, other in product(range(many), repeat=2):
                # To the room one, from there to the room other, and to the room 0 from wherever it is.
                steps = [(k, one, ("same", ("name", "x"), ("number", 2, 1))) for k in range(many) if k != one]
                steps += [(one, other, ("same", ("name", "x"), ("number", 2, 2)))]
                steps += [(k, 0, ("same", ("name", "x"), ("number", 2, 3))) for k in range(many)]
                self.agrees(self.machine(many, steps), [[x] for x in (0, 1, 0, 2, 0, 3, 1, 2, 3, 0)])

    def test_the_first_go_row_that_is_1_leads(self):
        chance = Random(5)
        conditions = [("cut", ("name", "x"), 0, 1), ("cut", ("name", "x"), 1, 1), ("number", 1, 1),
                      ("same", ("name", "x"), ("number", 2, 3)), ("at", "q", "a"), ("number", 1, 0)]
        for k in range(60):
            many = chance.randint(2, 8)
            ways = [(chance.randrange(many), chance.randrange(many), chance.choice(conditions)) for way in range(14)]
            program = self.machine(many, ways)
            self.agrees(program, self.any_rows(program, 40, k))

    def test_order_of_go_rows(self):
        for one, other in ("bc", "cb"):
            program = read(f"part main in x 1 rooms q a b c go q a {one} x go q a {other} x out y (at q b) out z (at q c) end")
            self.agrees(program, [[0], [1], [0], [0]])

    def test_without_go_rows_it_stays(self):
        self.text_agrees("part main rooms q a b c out y (at q a) out z (at q b) end", [[]] * 3)

    def test_several_rooms_rows_and_what_stands_behind_them(self):
        self.text_agrees("part p in a 1 out y (not a) end part main go q a b (and w (of u y)) out y (at q b) wire w x "
                         "go q b a (at r s) use u p m rooms q a b in x 1 memory m 1 0 (at q b) rooms r b s t "
                         "go r b s (at q b) go r s t x go r t b (not x) out z (at r s) out v (at r t) end",
                         [[x] for x in (1, 0, 1, 1, 1, 0, 0, 1, 1, 0, 1, 1, 1, 0, 1, 1, 0, 0, 0, 1)])


class Uses(Flats):
    COUNT = ("part count in up 1 memory n 2 0 (if up (plus n (number 2 1)) n) out y n out full (same n (number 2 3)) end ")

    def test_uses_within_uses(self):
        self.text_agrees(self.COUNT + "part two in up 1 use low count up use high count (and up (of low full)) "
                         "out y (join (of low y) (of high y)) out full (and (of low full) (of high full)) end "
                         "part main in x 1 use a two x use b two (not x) use c count (of a full) "
                         "out ya (of a y) out yb (of b y) out z (of a full) out yc (of c y) end",
                         [[1], [1], [0], [1], [1], [1], [0]] * 12)

    def test_several_of_one_part_have_states_of_their_own(self):
        self.text_agrees("part p in a 2 memory m 2 2 (plus m a) rooms q s t go q s t (cut a 0 1) go q t s (cut a 1 1) "
                         "out y m out z (at q t) end part main memory k 3 6 (plus k (number 3 1)) in x 2 use u p x "
                         "memory l 1 1 (of v z) use v p (of u y) rooms q s t go q s t (of u z) use w p (number 2 1) "
                         "out a (of u y) out b (of v y) out c (of w y) out d (at q t) out e k out f l end",
                         [[x] for x in (1, 2, 3, 0, 0, 1, 1, 3, 2, 2, 0, 1, 3, 3, 0, 2)])

    def test_a_row_of_uses(self):
        text = "part p in a 3 memory m 3 1 a out y m end part main in x 3 use a p x "
        text += " ".join([f"use {new} p (of {old} y)" for old, new in ("ab", "bc", "cd")]) + " out y (of d y) end"
        self.text_agrees(text, [[x] for x in (5, 2, 7, 0, 1, 3, 6)])

    def test_parts_that_are_not_used(self):
        text = "part p memory m 8 3 (plus m m) out y m end part main in x 2 out y x end"
        self.text_agrees(text, [[0], [1], [2], [3]])
        self.assertEqual(flat(read(text)), (2, [], [], [0, 1]))
        self.text_agrees("part a out y (number 1 0) end part b out y (number 1 1) end", [[]])
        self.agrees(read("part a out y (number 1 0) end part b out y (number 1 1) end")[::-1], [[]])

    def test_what_shares_a_name_is_not_mixed(self):
        self.text_agrees("part x in x 2 memory y 2 1 x out y (plus x y) out x y end part main in x 2 use y x (not x) "
                         "rooms z x y go z x y (cut x 0 1) out x (of y y) out y (of y x) out z (at z x) end",
                         [[x] for x in (2, 0, 3, 1, 1, 0)])

    def test_uses_without_ins_and_without_outs(self):
        self.text_agrees("part a memory m 2 1 (plus m m) end part b memory m 2 1 (plus m (number 2 1)) out y m end "
                         "part c in x 1 end part main use u a use v b use w c (cut (of v y) 0 1) out y (of v y) end", [[]] * 6)


class Weights(Flats):
    """At most 20 gates for each one of the weight; agrees counts them."""

    def test_wide_and_heavy(self):
        words = ("and", "or", "xor", "plus", "minus")
        for word in words + ("same", "less", "if"):
            rows = [("in", "x", 8), ("in", "c", 1)]
            expression = ("name", "x")
            for k in range(20):
                one = expression if word in words else ("name", "x")
                expression = (word, ("name", "c"), one, one) if word == "if" else (word, one, ("name", "x"))
                rows.append(("wire", "w" + self.letters(k), expression))
                expression = ("name", rows[-1][1]) if word in words + ("if",) else ("name", "x")
            program = [("main", rows + [("out", "y", ("name", rows[-1][1]))])]
            look_over(program)
            self.assertGreaterEqual(weight(program, "main"), 60)
            self.agrees(program, self.any_rows(program, 5))

    def letters(self, k):
        return "abcdefghijklmnopqrstuvwxyz"[k]

    def test_the_weight_of_200(self):
        part = "part p in x 8 memory m 8 77 (minus (plus m x) (number 8 9)) out y (if (less m x) (plus m x) (minus m x)) end "
        uses = " ".join([f"use {self.letters(k)} p {'x' if k == 0 else f'(of {self.letters(k - 1)} y)'}" for k in range(9)])
        wires = "wire z (plus (plus x x) (minus x x)) wire v (plus x x) wire r (not (not (not z)))"
        program = read(f"{part}part main in x 8 {uses} {wires} out y (of i y) end")
        look_over(program)
        self.assertEqual(weight(program, "main"), 200)
        self.agrees(program, self.any_rows(program, 25))

    def test_rooms_and_numbers_alone(self):
        for text in ("part main rooms q a b c d e f g h end", "part main rooms q a out y (at q a) end",
                     "part main rooms q a b c d e f g h go q a b (at q a) go q b h (at q b) go q h a (number 1 1) end",
                     "part main out y (number 8 85) end", "part main out y (number 8 255) end"):
            self.text_agrees(text, [[]] * 3)


class MadeUp(Flats):
    def test_programs_made_up(self):
        heavy = 0
        for seed in range(250):
            maker = Maker(seed)
            program = maker.program()
            heavy = max(heavy, weight(program, program[-1][0]))
            self.agrees(program, self.any_rows(program, 6, seed))
        self.assertGreaterEqual(heavy, 200)


class OwnLists(Flats):
    PROGRAM = read("part p in a 2 memory m 2 1 a rooms q r s go q r s (cut a 0 1) out y m end "
                   "part q use v p (number 2 2) use u p (of v y) out y (of u y) end "
                   "part main in a 2 use u q use v p a out y (of v y) out z (of u y) memory k 2 3 (plus k a) end")

    def test_own_lists(self):
        look_over(self.PROGRAM)
        self.own_lists(flat, self.PROGRAM)
        self.own_lists(flat, read("part main in x 1 end"))


class Beyond(Flats):
    """What is handed in may lie somewhat beyond what a text can tell."""

    def test_wide_and_deep(self):
        deep = ("name", "x")
        for k in range(21):
            deep = ("not", deep)
        rows = [("in", "x", 8), ("out", "y", deep), ("rooms", "r", ()), ("out", "z", ("minus", deep, ("name", "x")))]
        self.agrees([("main", rows)], [[100], [0], [255]])
        rows = [("in", "x", 10), ("out", "y", ("plus", ("name", "x"), ("number", 10, 1000)))]
        told = run_bits(flat([("main", rows)]), [to_bits(x, 10) for x in (0, 23, 24, 1023)])
        self.assertEqual(told, [to_bits(y, 10) for y in (1000, 1023, 0, 999)])

    def test_more_rooms(self):
        for many in (9, 10, 16, 17):
            names = tuple("abcdefghijklmnopq"[:many])
            rows = [("rooms", "q", names)] + [("out", name, ("at", "q", name)) for name in names]
            rows += [("go", "q", one, other, ("number", 1, 1)) for one, other in zip(names, names[1:] + names[:1])]
            self.agrees([("main", rows)], [[]] * (many + 2))

    def test_heavier_than_200(self):
        rows = [("in", "x", 8)] + [("out", f"y{k}", ("plus", ("name", "x"), ("number", 8, k))) for k in range(60)]
        self.agrees([("main", rows)], [[0], [255], [77]])

    def test_a_part_without_rows(self):
        self.assertEqual(flat([("main", [])]), (0, [], [], []))
