"""Programs looked over: what is refused by which look, what is let, and what is told of parts."""

from gatepapers.errors import GateError, NoName, NoWidth, TooGreat, Twice
from gatepapers.kinds import ins_of, look_over, outs_of, weight
from gatepapers.reading import read
from tests.helper import TWO, Checks, Maker, all_expressions

# A part with each kind of thing, all of its expressions one bit wide; HERE takes more rows.
USED = "part p in a 1 in b 3 out y a out z b end"
HOLDER = ("in x 1 in wide 4 memory m 1 0 x rooms q ra rb use u p x (cut wide 0 3) wire w x HERE")
BIT_ROWS = ("out o HERE", "wire ww HERE", "memory mm 1 0 HERE", "go q ra rb HERE", "use uu p HERE (cut wide 1 3)")
WITHIN = ("HERE", "(not HERE)", "(cut HERE 0 1)", "(if HERE x x)", "(if x HERE x)", "(if x x HERE)",
          "(cut (join HERE x) 0 1)", "(cut (join x HERE) 0 1)", "(not (not (and x HERE)))",
          ) + tuple([f"({word} HERE x)" for word in TWO if word != "join"]
                    ) + tuple([f"({word} x HERE)" for word in TWO if word != "join"])


def main(rows):
    return read(f"part main {rows} end")


def held(rows):
    """A program of the used part and of one that has each kind of thing and more rows."""
    return read(f"{USED} part main {HOLDER.replace('HERE', rows)} end")


def everywhere(rows):
    """Programs that have these rows behind the holder's, in a first, a middle and a last part."""
    part = f"part {{name}} {HOLDER.replace('HERE', rows)} end"
    other = "part other in x 1 end"
    one = part.replace("{name}", "one")
    return [read(text) for text in (f"{USED} {one}", f"{USED} {one} {other}", f"{other} {USED} {one} {other.replace('other', 'more')}")]


def within_all(expression):
    """Rows that hold an expression of one bit in each place where one can stand."""
    return [row.replace("HERE", around.replace("HERE", expression)) for row in BIT_ROWS for around in WITHIN]


class Looks(Checks):
    def let(self, program):
        self.assertIsNone(look_over(program))


class TwiceLook(Looks):
    THINGS = ("in t 1", "wire t x", "memory t 1 0 x", "rooms t ra", "use t p x (cut wide 0 3)")

    def test_two_parts(self):
        self.refused(Twice, look_over, read("part a in x 1 end part a in x 1 end"))
        self.refused(Twice, look_over, read("part a in x 1 end part b in x 1 end part a in z 2 end"))
        self.let(read("part a in x 1 end part b in x 1 end part c in x 1 end"))

    def test_each_two_things_of_a_part(self):
        for one in self.THINGS:
            for program in everywhere(one):
                self.let(program)
            for other in self.THINGS:
                for rows in (f"{one} {other}", f"{one} out k x {other}"):
                    for program in everywhere(rows):
                        self.refused(Twice, look_over, program)

    def test_each_thing_of_the_holder(self):
        for name in ("x", "wide", "m", "q", "u", "w"):
            for row in self.THINGS:
                self.refused(Twice, look_over, held(row.replace(" t ", f" {name} ")))

    def test_two_outs(self):
        for program in everywhere("out o x out o x") + everywhere("out o x in k 1 out o (not x)"):
            self.refused(Twice, look_over, program)

    def test_a_room_twice(self):
        for rooms in ("a a", "a b a", "a b b", "a b c d e f g a"):
            for program in everywhere(f"rooms k {rooms}"):
                self.refused(Twice, look_over, program)
        self.let(held("rooms k a b c d e f g h"))

    def test_names_that_may_be_shared(self):
        self.let(held("out x x out m x out w x out q x out u x out p x out main x out ra x out o x"))
        self.let(held("rooms k x m w q u p main k out k x"))
        self.let(held("rooms k ra rb rooms l ra rb"))
        self.let(held("in p 1 in main 1 in y 1 in ra 1"))
        self.let(read("part main in main 1 out main main end"))
        self.let(read("part a in x 1 out y x wire w x end part b in x 1 out y x wire w x end"))


class NameLook(Looks):
    NO_EXPRESSIONS = (
        "nobody", "q", "u", "p", "main", "one", "ra", "a", "y", "o",
        "(of nobody y)", "(of u nobody)", "(of u a)", "(of u o)", "(of x y)", "(of w y)", "(of m y)", "(of q y)", "(of p y)",
        "(at nobody ra)", "(at q nobody)", "(at q q)", "(at q x)", "(at x ra)", "(at u ra)", "(at w ra)", "(at m ra)", "(at ra ra)",
    )

    def test_expressions_in_each_place(self):
        for expression in self.NO_EXPRESSIONS:
            for rows in within_all(expression):
                if "out o " not in rows or expression != "o":
                    self.refused(NoName, look_over, held(rows))

    def test_expressions_in_each_part(self):
        for expression in self.NO_EXPRESSIONS:
            for program in everywhere(f"out k {expression}") + everywhere(f"use k p x (join x (join x {expression}))"):
                self.refused(NoName, look_over, program)

    def test_names_of_outs_serve_nothing(self):
        self.refused(NoName, look_over, main("in x 1 out y x out z y"))
        self.refused(NoName, look_over, main("in x 1 out y y"))

    def test_what_serves_in_each_place(self):
        for expression in ("x", "m", "w", "(of u y)", "(cut (of u z) 2 1)", "(at q ra)", "(at q rb)"):
            for rows in within_all(expression):
                self.let(held(rows))

    def test_uses_of_what_is_no_part_ahead(self):
        for name in ("nobody", "main", "x", "y", "q", "last"):
            self.refused(NoName, look_over, read(f"{USED} part main in x 1 use k {name} x end part last in x 1 end"))
        self.refused(NoName, look_over, read("part main use k main end"))
        self.refused(NoName, look_over, read("part main use k p end part p in a 1 end"))
        self.refused(NoName, look_over, read("part main out y (of k z) use k p end part p out z (number 1 1) end"))
        self.let(read("part p out z (number 1 1) end part main out y (of k z) use k p end"))

    def test_go_rows(self):
        for rows in ("go nobody ra rb x", "go x ra rb x", "go u ra rb x", "go ra ra rb x", "go q nobody rb x", "go q ra nobody x",
                     "go q q rb x", "go q ra x x", "rooms k ka go k ra ka x", "rooms k ka go k ka ra x", "go k ra ra x"):
            for program in everywhere(rows):
                self.refused(NoName, look_over, program)
        for rows in ("go q ra rb x", "go q ra ra x", "go k ka ka x rooms k ka", "out o (at k ka) wire l (at k ka) rooms k ka"):
            for program in everywhere(rows):
                self.let(program)

    def test_rooms_are_those_of_their_own_row(self):
        self.refused(NoName, look_over, held("rooms k ka out o (at q ka)"))
        self.refused(NoName, look_over, held("rooms k ka out o (at k ra)"))

    def test_names_of_other_parts_serve_nothing(self):
        first = "part first in i 1 wire j i memory k 1 0 i rooms l la out o i end"
        for expression in ("i", "j", "k", "o", "(at l la)", "(of first o)"):
            self.refused(NoName, look_over, read(f"{first} part main out y {expression} end"))

    def test_outs_are_those_of_the_use_s_own_part(self):
        parts = "part a out ya (number 1 1) end part b out yb (number 1 1) end"
        self.let(read(f"{parts} part main use u a use v b out y (of u ya) out z (of v yb) end"))
        self.refused(NoName, look_over, read(f"{parts} part main use u a use v b out y (of u yb) end"))
        self.refused(NoName, look_over, read(f"{parts} part main use u a use v b out y (of v ya) end"))

    def test_wires_and_uses_take_only_those_ahead(self):
        self.let(main("in x 1 wire a x wire b a"))
        self.refused(NoName, look_over, main("in x 1 wire b a wire a x"))
        self.refused(NoName, look_over, main("in x 1 wire a a"))
        self.refused(NoName, look_over, main("in x 1 wire a (not (not a))"))
        part = "part p in a 1 out y a end "
        self.let(read(part + "part main in x 1 use u p x wire a (of u y) use v p a use w p (of v y) end"))
        for rows in ("wire a (of u y) use u p x", "use u p (of u y)", "use u p (of v y) use v p x", "use u p a wire a x",
                     "use v p x use u p (not (of w y)) use w p x", "wire a (and x (of u y)) out z x use u p x",
                     "wire a (if x b b) wire b x"):
            self.refused(NoName, look_over, read(f"{part}part main in x 1 {rows} end"))

    def test_ins_and_memories_and_rooms_of_any_row_serve(self):
        part = "part p in a 1 out y a end "
        for row in ("wire w HERE", "use u p HERE", "out o HERE", "memory n 1 0 HERE", "go r k k HERE"):
            for expression in ("x", "m", "(at q k)", "(not (and x (at q k)))"):
                rows = row.replace("HERE", expression)
                self.let(read(f"{part}part main {rows} in x 1 memory m 1 0 m rooms q k rooms r k end"))
                self.let(read(f"{part}part main rooms q k rooms r k in x 1 memory m 1 0 m {rows} end"))

    def test_out_memory_and_go_rows_take_those_of_any_row(self):
        part = "part p in a 1 out y a end "
        for row in ("out o HERE", "memory n 1 0 HERE", "go r k k HERE"):
            for expression in ("w", "(of u y)", "(not (and w (of u y)))"):
                rows = row.replace("HERE", expression)
                self.let(read(f"{part}part main {rows} in x 1 wire w x use u p w rooms r k end"))
                self.let(read(f"{part}part main in x 1 wire w x {rows} use u p w rooms r k end"))
                self.let(read(f"{part}part main in x 1 wire w x use u p w rooms r k {rows} end"))
        self.let(main("memory m 1 0 m"))
        self.let(main("memory m 1 0 n memory n 1 0 m"))


class WidthLook(Looks):
    NO_EXPRESSIONS = (
        "(number 0 0)", "(number 9 0)", "(number 999 0)", "(number 1 2)", "(number 1 999)",
        "(cut (number 3 8) 0 1)", "(cut (number 8 256) 0 1)", "(cut wide 0 0)", "(cut wide 4 1)", "(cut wide 3 2)", "(cut wide 0 5)",
        "(cut wide 5 0)", "(cut x 1 1)", "(cut x 0 2)", "(cut wide 999 1)", "(cut wide 0 999)",
        "(same x wide)", "(same wide x)", "(less x wide)", "(less wide x)", "(and x wide)", "(and wide x)", "(or x wide)",
        "(xor wide x)", "(plus x wide)", "(minus wide x)", "(minus x wide)", "(plus wide x)", "(or wide x)", "(xor x wide)",
        "(if wide x x)", "(if x wide x)", "(if x x wide)", "(if (cut wide 0 2) x x)", "(same (at q ra) wide)",
        "(same (of u z) wide)", "(same (of u z) x)", "(same (cut wide 0 2) (of u z))", "(same (not wide) x)",
        "(same (same wide wide) wide)", "(same (less wide wide) wide)", "(same (plus wide wide) x)", "(same (join x x) x)",
        "(same (join wide x) (cut wide 0 3))", "(cut (join wide (join wide x)) 0 1)",
        "(cut (join (join wide wide) wide) 0 1)", "(same (if x wide wide) x)", "(same (number 3 1) wide)",
    )

    def test_expressions_in_each_place(self):
        for expression in self.NO_EXPRESSIONS:
            for rows in within_all(expression):
                self.refused(NoWidth, look_over, held(rows))

    def test_expressions_in_each_part(self):
        for expression in self.NO_EXPRESSIONS:
            for program in everywhere(f"out k {expression}") + everywhere(f"wire k {expression}"):
                self.refused(NoWidth, look_over, program)

    def test_what_fits_in_each_place(self):
        for expression in (
            "(number 1 0)", "(number 1 1)", "(cut (number 8 255) 0 1)", "(cut (number 8 255) 7 1)", "(same (number 4 15) wide)",
            "(cut wide 3 1)", "(same (cut wide 0 4) wide)", "(same (cut wide 1 3) (of u z))", "(same (of u z) (of u z))",
            "(same (join wide wide) (number 8 0))", "(same (join wide (cut wide 0 3)) (number 7 0))", "(same (join (of u z) x) wide)",
            "(less wide wide)", "(if (same wide wide) x x)", "(same (if x wide wide) wide)", "(same (not wide) wide)",
            "(same (minus wide (and wide (or wide wide))) wide)", "(same (at q ra) x)", "(less (less wide wide) x)",
        ):
            for rows in within_all(expression):
                self.let(held(rows))

    def test_widths(self):
        for width in (0, 9, 10, 999):
            for rows in (f"in k {width}", f"memory k {width} 0 k", f"out k (number {width} 0)",
                         f"wire k (number {width} 0)", f"memory k {width} 0 (number {width} 0)"):
                for program in everywhere(rows):
                    self.refused(NoWidth, look_over, program)
        for width in range(1, 9):
            for rows in (f"in k {width}", f"memory k {width} 0 k", f"out k (number {width} 0)"):
                for program in everywhere(rows):
                    self.let(program)

    def test_numbers(self):
        for width in range(1, 9):
            for number in (0, 2 ** width - 1):
                self.let(main(f"memory m {width} {number} m"))
                self.let(main(f"out y (number {width} {number})"))
            for number in (2 ** width, 2 ** width + 1, 999):
                self.refused(NoWidth, look_over, main(f"memory m {width} {number} m"))
                self.refused(NoWidth, look_over, main(f"out y (number {width} {number})"))

    def test_memories_and_go_rows(self):
        for width in range(1, 9):
            for wide in range(1, 9):
                programs = (main(f"memory m {width} 0 (number {wide} 0)"), main(f"memory m {width} 0 w in x {wide} wire w x"))
                for program in programs:
                    if width == wide:
                        self.let(program)
                    else:
                        self.refused(NoWidth, look_over, program)
        for wide in range(1, 9):
            program = main(f"rooms q a go q a a x in x {wide}")
            if wide == 1:
                self.let(program)
            else:
                self.refused(NoWidth, look_over, program)

    def test_joins(self):
        for low in range(1, 9):
            for high in range(1, 9):
                program = main(f"in a {low} in b {high} out y (join a b)")
                if low + high <= 8:
                    self.let(program)
                    self.assertEqual(outs_of(program, "main"), [("y", low + high)])
                else:
                    self.refused(NoWidth, look_over, program)

    def test_cuts(self):
        for width in range(1, 9):
            for low in range(10):
                for many in range(10):
                    program = main(f"in a {width} out y (cut a {low} {many})")
                    if many >= 1 and low + many <= width:
                        self.let(program)
                        self.assertEqual(outs_of(program, "main"), [("y", many)])
                    else:
                        self.refused(NoWidth, look_over, program)

    def test_alike(self):
        for width in range(1, 9):
            for other in range(1, 9):
                for word in TWO[:7]:
                    program = main(f"in a {width} in b {other} out y ({word} a b)")
                    if width == other:
                        self.let(program)
                        self.assertEqual(outs_of(program, "main"), [("y", 1 if word in ("same", "less") else width)])
                    else:
                        self.refused(NoWidth, look_over, program)

    def test_choices(self):
        for width in (1, 2, 8):
            for one in (1, 2, 7, 8):
                for other in (1, 2, 7, 8):
                    program = main(f"in c {width} in a {one} in b {other} out y (if c a b)")
                    if width == 1 and one == other:
                        self.let(program)
                        self.assertEqual(outs_of(program, "main"), [("y", one)])
                    else:
                        self.refused(NoWidth, look_over, program)

    def test_uses(self):
        part = "part p in a 1 out y a in b 4 end "
        self.let(read(part + "part main in x 1 in z 4 use u p x z end"))
        for handed in ("", "x", "z", "z x", "x x", "z z", "x z x", "x z z x", "x x z", "(not z) z", "x (cut z 0 3)"):
            self.refused(NoWidth, look_over, read(f"{part}part main in x 1 in z 4 use u p {handed} end"))
            self.refused(NoWidth, look_over, read(f"{part}part main in x 1 in z 4 use u p {handed} end part last in x 1 end"))
        self.refused(NoWidth, look_over, read("part p out y (number 1 1) end part main in x 1 use u p x end"))

    def test_a_part_with_eight_or_nine_ins(self):
        for many in (7, 8, 9):
            ins = " ".join([f"in k{sign} 1" for sign in "abcdefghi"[:many]])
            for handed in range(9):
                program = read(f"part p {ins} end part main in x 1 use u p {'x ' * handed} end")
                if handed == many:
                    self.let(program)
                else:
                    self.refused(NoWidth, look_over, program)

    def test_widths_come_through_wires_and_uses(self):
        part = "part p in a 2 wire w (join a a) out y (join w w) end "
        program = read(part + "part main use u p (number 2 1) wire k (of u y) wire l (cut k 1 6) out z l out v k memory m 6 0 l end")
        self.let(program)
        self.assertEqual(outs_of(program, "main"), [("z", 6), ("v", 8)])
        self.refused(NoWidth, look_over, read(part + "part main use u p (number 2 1) out z (join (of u y) (number 1 1)) end"))
        self.refused(NoWidth, look_over, read(part + "part main use u p (number 2 1) memory m 4 0 (of u y) end"))


class WeightLook(Looks):
    def heavy(self, many):
        """A program whose last part has a weight of just so many."""
        uses = (many - 1) // 21
        rest = many - 21 * uses
        used = [f"use {'abcdefghijklmno'[k]}u p" for k in range(uses)]
        rows = used + [f"in k{'abcdefghijklmnopqrstuvwxyz'[k]} 1" for k in range(rest)]
        part = " ".join([f"out {sign} (number 1 1)" for sign in "abcdefghij"])
        return read(f"part p {part} end part main {' '.join(rows)} end")

    def test_just_200(self):
        for many in (1, 21, 22, 150, 199, 200):
            program = self.heavy(many)
            self.assertEqual(weight(program, "main"), many)
            self.let(program)
        for many in (201, 202, 220, 250):
            program = self.heavy(many)
            self.assertEqual(weight(program, "main"), many)
            self.refused(TooGreat, look_over, program)

    def test_only_the_last_part_is_bounded(self):
        for many in (200, 201, 300):
            program = self.heavy(many) + [("last", [("in", "x", 1)])]
            self.assertEqual(weight(program, "main"), many)
            self.let(program)
        self.refused(TooGreat, look_over, self.heavy(201) + [("last", [("use", "u", "main", tuple(
            [("number", 1, 0)] * len(ins_of(self.heavy(201), "main"))))])])

    def test_uses_within_uses_count_each_time(self):
        text = "part pa in x 1 out y (not x) end"
        for one, other in ("ab", "bc", "cd", "de", "ef", "fg", "gh"):
            text += f" part p{other} in x 1 use u p{one} x use v p{one} (of u y) out y (of v y) end"
        program = read(text)
        wanted = 4
        for name in ("pa", "pb", "pc", "pd", "pe", "pf", "pg", "ph"):
            self.assertEqual(weight(program, name), wanted)
            wanted = 2 * wanted + 7
        self.refused(TooGreat, look_over, program)
        self.let(program[:5])
        self.refused(TooGreat, look_over, program[:6])


class Order(Looks):
    TWICE = "in t 1 in t 1"
    NO_NAME = "out t nobody"
    NO_WIDTH = "in n 9"
    HEAVY = " ".join([f"use h{sign} heavy" for sign in "abcdefghij"])
    BIG = "part heavy " + " ".join([f"out {sign} (number 1 1)" for sign in "abcdefghij"]) + " end "
    FAULTS = ((Twice, TWICE), (NoName, NO_NAME), (NoWidth, NO_WIDTH), (TooGreat, HEAVY))

    def test_each_by_itself(self):
        for error, rows in self.FAULTS:
            self.refused(error, look_over, read(f"{self.BIG}part main in x 1 {rows} end"))

    def test_faults_in_one_part(self):
        for k, (error, rows) in enumerate(self.FAULTS):
            for later, others in self.FAULTS[k + 1:]:
                for both in (f"{rows} {others}", f"{others} {rows}"):
                    self.refused(error, look_over, read(f"{self.BIG}part main {both} end"))

    def test_faults_in_two_parts(self):
        for k, (error, rows) in enumerate(self.FAULTS):
            for later, others in self.FAULTS[k + 1:]:
                self.refused(error, look_over, read(f"{self.BIG}part one {rows} end part two {others} end"))
                if later is not TooGreat:
                    self.refused(error, look_over, read(f"{self.BIG}part one {others} end part two {rows} end"))

    def test_all_faults(self):
        rows = [rows for error, rows in self.FAULTS]
        for k, (error, one) in enumerate(self.FAULTS):
            self.refused(error, look_over, read(f"{self.BIG}part main {' '.join(rows[k:][::-1])} end"))
            self.refused(error, look_over, read(f"{self.BIG}part main {' '.join(rows[k:])} end"))

    def test_two_parts_of_one_name_come_ahead_of_all(self):
        for error, rows in self.FAULTS:
            self.refused(Twice, look_over, read(f"{self.BIG}part one {rows} end part one in x 1 end"))
        self.refused(Twice, look_over, read("part one out y nobody end part two rooms q a a end"))

    def test_kinds_of_one_look_in_any_part(self):
        self.refused(NoName, look_over, read("part one in x 9 end part two go q a b nobody end"))
        self.refused(NoName, look_over, read("part one in x 9 end part two use u three end"))
        self.refused(NoWidth, look_over, read(f"{self.BIG} part one in x 9 end part two {self.HEAVY} end"))


class Told(Looks):
    GOOD = read("part p in b 3 out y b in a 1 out b (join b a) end "
                "part main in x 4 use t p (cut x 1 3) (number 1 1) use u p (of t y) (cut x 0 1) wire w x in k 8 out o w out x (of u b) end "
                "part bare rooms q a end")

    def test_ins_and_outs(self):
        self.assertEqual(ins_of(self.GOOD, "p"), [("b", 3), ("a", 1)])
        self.assertEqual(outs_of(self.GOOD, "p"), [("y", 3), ("b", 4)])
        self.assertEqual(ins_of(self.GOOD, "main"), [("x", 4), ("k", 8)])
        self.assertEqual(outs_of(self.GOOD, "main"), [("o", 4), ("x", 4)])
        self.assertEqual(ins_of(self.GOOD, "bare"), [])
        self.assertEqual(outs_of(self.GOOD, "bare"), [])

    def test_lists_are_new_and_tuples_within(self):
        for deed in (ins_of, outs_of):
            first = deed(self.GOOD, "p")
            kept = list(first)
            self.assertIs(type(first), list)
            for pair in first:
                self.assertIs(type(pair), tuple)
                self.whole(pair[1])
            first.clear()
            self.assertEqual(deed(self.GOOD, "p"), kept)

    def test_each_width(self):
        for width in range(1, 9):
            program = main(f"in a {width} memory m {width} 0 a wire w m out i a out j m out k w out l (not a) out n (number {width} 1) "
                           f"out o (same a m) rooms q r out p (at q r) out z (plus a m) out y (if (same a m) a m)")
            self.let(program)
            self.assertEqual(outs_of(program, "main"), [("i", width), ("j", width), ("k", width), ("l", width), ("n", width),
                                                        ("o", 1), ("p", 1), ("z", width), ("y", width)])

    def test_weights(self):
        for rows, wanted in (
            ("in x 1", 1), ("in x 1 in y 8", 2), ("rooms q a b c d", 1), ("in x 1 out y x", 3), ("out y (number 1 1)", 2),
            ("in x 1 out y (not x)", 4), ("in x 1 wire y (and x (not x))", 6), ("in x 1 memory m 1 0 (if x m (same x m))", 8),
            ("in x 4 out y (cut x 1 2)", 4), ("rooms q a go q a a (at q a)", 3), ("in x 1 out y (join (join x x) (xor x x))", 9),
        ):
            program = main(rows)
            self.let(program)
            self.assertEqual(weight(program, "main"), wanted)
            self.whole(weight(program, "main"))

    def test_weights_of_uses(self):
        self.assertEqual(weight(self.GOOD, "p"), 4 + 4)
        self.assertEqual(weight(self.GOOD, "main"), 7 + (2 + 1 + 1 + 2 + 1 + 1 + 1) + 2 * 8)
        self.assertEqual(weight(self.GOOD, "bare"), 1)

    def test_made_up_programs(self):
        for seed in range(300):
            maker = Maker(seed)
            program = maker.program()
            for name, rows in program:
                self.assertEqual(ins_of(program, name), maker.shapes[name][0])
                self.assertEqual(outs_of(program, name), maker.shapes[name][1])
                self.assertEqual(weight(program, name), self.heavy(program, name))
            if self.heavy(program, program[-1][0]) <= 200:
                self.let(program)
            else:
                self.refused(TooGreat, look_over, program)

    def heavy(self, program, name):
        rows = dict(program)[name]
        return len(rows) + len(all_expressions(rows)) + sum([self.heavy(program, row[2]) for row in rows if row[0] == "use"])


class Stays(Looks):
    TEXTS = (
        "part p in b 3 out y b end part main in x 3 use u p x rooms q a b go q a b (at q b) memory m 3 1 (of u y) out o m end",
        "part main in x 1 in x 1 end", "part main out y nobody end", "part main in x 9 end",
    )

    def test_programs_stay_and_answers_too(self):
        for text in self.TEXTS:
            program = read(text)
            answers = []
            for k in range(2):
                try:
                    answers.append(look_over(program))
                except GateError as error:
                    answers.append(type(error))
            self.assertEqual(answers[0], answers[1])
            self.assertEqual(program, read(text))

    def test_asking_changes_nothing(self):
        program = read(self.TEXTS[0])
        for name in ("p", "main"):
            for deed in (ins_of, outs_of, weight):
                deed(program, name)
        self.assertEqual(program, read(self.TEXTS[0]))

    def test_later_changes_do_not_reach_back(self):
        program = read(self.TEXTS[0])
        ins = ins_of(program, "main")
        outs = outs_of(program, "main")
        program[1][1].clear()
        program.pop(0)
        self.assertEqual(ins, [("x", 3)])
        self.assertEqual(outs, [("o", 3)])


class Beyond(Looks):
    """What is handed in may lie somewhat beyond what a text can tell, and is not refused for it."""

    def test_more_parts_rows_rooms_and_brackets(self):
        self.let([(f"p{k}", [("in", "x", 1)]) for k in range(9)])
        self.let([("main", [("in", f"x{k}", 1) for k in range(41)])])
        self.let([("main", [("rooms", "q", tuple("abcdefghi"))])])
        deep = ("name", "x")
        for k in range(20):
            deep = ("not", deep)
        self.let([("main", [("in", "x", 1), ("out", "y", deep)])])

    def test_nine_ins_and_nine_expressions(self):
        part = ("p", [("in", f"i{k}", 1) for k in range(9)])
        for many in (8, 9, 10):
            program = [part, ("main", [("in", "x", 1), ("use", "u", "p", (("name", "x"),) * many)])]
            if many == 9:
                self.let(program)
            else:
                self.refused(NoWidth, look_over, program)

    def test_no_part_and_no_rows(self):
        self.let([])
        self.let([("main", [])])
        self.assertEqual(weight([("main", [])], "main"), 0)
