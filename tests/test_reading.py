"""Texts read to programs, and texts that are refused."""

from random import Random

from gatepapers.errors import NoText
from gatepapers.reading import read
from tests.helper import KEPT, ODD_THINGS, TWO, Checks, Maker, all_expressions, text_of

X = ("name", "x")
Y = ("name", "y")
BIT = ("number", 1, 1)

ROWS = (
    ("in x 4", ("in", "x", 4)),
    ("out y x", ("out", "y", X)),
    ("wire w x", ("wire", "w", X)),
    ("memory m 4 9 x", ("memory", "m", 4, 9, X)),
    ("rooms q a", ("rooms", "q", ("a",))),
    ("go q a b x", ("go", "q", "a", "b", X)),
    ("use u p ( number 1 1 )", ("use", "u", "p", (BIT,))),
)
EXPRESSIONS = (
    ("x", X),
    ("( number 4 9 )", ("number", 4, 9)),
    ("( of u y )", ("of", "u", "y")),
    ("( at q a )", ("at", "q", "a")),
    ("( not x )", ("not", X)),
    ("( if x y x )", ("if", X, Y, X)),
    ("( cut x 2 3 )", ("cut", X, 2, 3)),
) + tuple([(f"( {word} x y )", (word, X, Y)) for word in TWO])


def main(rows):
    return f"part main {rows} end"


def rows_around(expression):
    """An expression in each row that takes one."""
    return [f"out y {expression}", f"wire w {expression}", f"memory m 4 9 {expression}", f"go q a b {expression}",
            f"use u p ( number 1 1 ) {expression} ( number 1 1 )"]


class Programs(Checks):
    def test_each_row(self):
        for text, row in ROWS:
            self.assertEqual(read(main(text)), [("main", [row])])

    def test_each_expression(self):
        for text, expression in EXPRESSIONS:
            self.assertEqual(read(main(f"out y {text}")), [("main", [("out", "y", expression)])])
            self.assertEqual(read(main(f"wire w {text}")), [("main", [("wire", "w", expression)])])
            self.assertEqual(read(main(f"memory m 4 9 {text}")), [("main", [("memory", "m", 4, 9, expression)])])
            self.assertEqual(read(main(f"go q a b {text}")), [("main", [("go", "q", "a", "b", expression)])])
            self.assertEqual(read(main(f"use u p {text} x")), [("main", [("use", "u", "p", (expression, X))])])

    def test_each_expression_within_each(self):
        for text, expression in EXPRESSIONS:
            wanted = [
                (f"(not {text})", ("not", expression)), (f"(cut {text} 0 1)", ("cut", expression, 0, 1)),
                (f"(if {text} x y)", ("if", expression, X, Y)), (f"(if x {text} y)", ("if", X, expression, Y)),
                (f"(if x y {text})", ("if", X, Y, expression)),
            ]
            for word in TWO:
                wanted.append((f"({word} {text} x)", (word, expression, X)))
                wanted.append((f"({word} x {text})", (word, X, expression)))
            for around, told in wanted:
                self.assertEqual(read(main(f"out y {around}")), [("main", [("out", "y", told)])])

    def test_rooms_and_uses_have_one_tuple(self):
        for many in range(1, 9):
            rooms = tuple("abcdefgh"[:many])
            self.assertEqual(read(main(f"rooms q {' '.join(rooms)}")), [("main", [("rooms", "q", rooms)])])
        for many in range(9):
            handed = ("x", "(number 1 1)") * 4
            row = ("use", "u", "p", ((X, BIT) * 4)[:many])
            self.assertEqual(read(main(f"use u p {' '.join(handed[:many])}")), [("main", [row])])

    def test_a_use_ends_where_a_row_begins(self):
        rows = [("use", "u", "p", ()), ("use", "w", "p", (X, X)), ("rooms", "q", ("a", "b")), ("in", "x", 1)]
        self.assertEqual(read(main("use u p use w p x x rooms q a b in x 1")), [("main", rows)])

    def test_parts(self):
        program = read("part one in x 4 out y x end part two in z 1 end part one rooms q a end")
        self.assertEqual(program, [
            ("one", [("in", "x", 4), ("out", "y", X)]), ("two", [("in", "z", 1)]), ("one", [("rooms", "q", ("a",))]),
        ])
        self.assertIs(type(program), list)
        for part in program:
            self.assertIs(type(part), tuple)
            self.assertIs(type(part[1]), list)
            for row in part[1]:
                self.assertIs(type(row), tuple)

    def test_the_example(self):
        self.assertEqual(read("part main in x 4 memory sum 4 0 (plus sum x) out y sum end"), [("main", [
            ("in", "x", 4), ("memory", "sum", 4, 0, ("plus", ("name", "sum"), X)), ("out", "y", ("name", "sum")),
        ])])

    def test_what_later_looks_refuse_is_read(self):
        self.assertEqual(read(main("in x 0 in x 999")), [("main", [("in", "x", 0), ("in", "x", 999)])])
        self.assertEqual(read(main("out y (cut z 999 0)")), [("main", [("out", "y", ("cut", ("name", "z"), 999, 0))])])
        self.assertEqual(read(main("rooms q a a")), [("main", [("rooms", "q", ("a", "a"))])])

    def test_made_up_programs(self):
        for seed in range(200):
            program = Maker(seed).program()
            text = text_of(program)
            if len(text) <= 6000 and len(all_expressions(program)) <= 120:
                self.assertEqual(read(text), program)
            else:
                self.refused(NoText, read, text)

    def test_lists_told_are_new(self):
        text = "part one in x 4 rooms q a b end part two use u one x out y (not x) end"
        first = read(text)
        again = read(text)
        self.assertIsNot(first, again)
        for one, other in zip(first, again):
            self.assertIsNot(one[1], other[1])
        kept = read(text)
        first[0][1].append("more")
        first[1][1].clear()
        first.pop()
        self.assertEqual(again, kept)
        self.assertEqual(read(text), kept)


class OtherForms(Checks):
    def every_lack(self, words, around):
        for k in range(len(words)):
            self.refused(NoText, read, around(" ".join(words[:k] + words[k + 1:])))

    def every_surplus(self, words, around, let):
        for k in range(len(words) + 1):
            for more in ("zz", "7", "(", ")", "end", "in", "part", "not", "( not x )", "( )"):
                if not let(k, more):
                    self.refused(NoText, read, around(" ".join(words[:k] + [more] + words[k:])))

    def test_rows_with_one_thing_less(self):
        for text, row in ROWS:
            self.every_lack(text.split(), main)
            self.every_lack(text.split(), lambda rows: main(f"in i 1 {rows} in j 1"))

    def test_rows_with_one_thing_more(self):
        for text, row in ROWS:
            # More rooms, and more expressions of a use, are no fault.
            def let(k, more, word=row[0]):
                if word == "rooms":
                    return k > 0 and more == "zz"
                return word == "use" and (k > 0 and more == "zz" or k in (3, 8) and more == "( not x )")
            self.every_surplus(text.split(), main, let)
            self.every_surplus(text.split(), lambda rows: main(f"in i 1 {rows} in j 1"), let)

    def test_expressions_with_one_thing_less_or_more(self):
        for text, expression in EXPRESSIONS[1:]:
            words = text.split()
            for around in rows_around("HERE") + ["out y (and x HERE)", "out y (if HERE x x)", "out y (cut HERE 0 1)"]:
                def filled(words, around=around):
                    return main(around.replace("HERE", words))
                self.every_lack(words, filled)

                def let(k, more, around=around):
                    return "use" in around and k in (0, len(words)) and more in ("zz", "( not x )")
                self.every_surplus(words, filled, let)

    def test_things_of_another_kind(self):
        for rows in ("in 4 4", "in x x", "in x (number 1 1)", "in (x) 4", "out 3 x", "out y 3", "out y (x)", "out y ()",
                     "wire 3 x", "wire w 3", "memory m x 0 x", "memory m 4 x x", "memory m 4 0 0", "memory 4 4 0 x",
                     "rooms 3 a", "rooms q 3", "rooms q a 3", "rooms q a (at q a)", "go 3 a b x", "go q 3 b x",
                     "go q a 3 x", "go q a b 3", "use 3 p x", "use u 3 x", "use u p 3", "use u p x 3",
                     "out y (number x 3)", "out y (number 4 x)", "out y (of 3 y)", "out y (of u 3)", "out y (of u x y)",
                     "out y (of (of u x) y)", "out y (at q 3)", "out y (at 3 a)", "out y (not 3)", "out y (and x 3)",
                     "out y (and 3 x)", "out y (if 1 x x)", "out y (cut 3 0 1)", "out y (cut x x 1)",
                     "out y (cut x 1 x)", "out y (cut x 0 (number 1 1))", "out y (name x)", "out y ((not x))"):
            self.refused(NoText, read, main(rows))

    def test_no_part_and_no_rows(self):
        for text in ("", " ", "\n", "part", "part main", "end", "part main end", "part one in x 4 end part two end",
                     "part one end part two in x 4 end", "in x 4", "in x 4 end", "x", "(", ")", "(not x)", "4"):
            self.refused(NoText, read, text)

    def test_ends_too_many_or_too_few(self):
        for text in ("part main in x 4", "part main in x 4 end end", "end part main in x 4 end",
                     "part one in x 4 part two in x 4 end", "part one in x 4 end end part two in x 4 end",
                     "part one part two in x 4 end end", "part one in x 4 end in x 4 end", "part one in x 4 end x",
                     "part main in end 4 end", "part one in x 4 end part"):
            self.refused(NoText, read, text)

    def test_marks_too_many_or_too_few(self):
        for rows in ("out y (not x", "out y (not x))", "out y not x)", "out y not x", "out y )", "out y (", "out y (not (not x)",
                     "out y ((not x)", "(out y x)", "in (x 4)", "out y (and (not x) (not x)", "use u p (not x",
                     "use u p (not x))", "use u p (x x)", "rooms q (a b)", "memory (m 4 0 x)"):
            self.refused(NoText, read, main(rows))
        self.refused(NoText, read, "(part main in x 4 end)")
        self.refused(NoText, read, "part (main) in x 4 end")

    def test_what_is_no_text(self):
        for thing in ODD_THINGS + [0, 1, -1, 10 ** 59, ["part main in x 4 end"], ("part main in x 4 end",),
                                   b"part main in x 4 end", {"part main in x 4 end": 1}, read("part main in x 4 end")]:
            self.refused(NoText, read, thing)


class Soup(Checks):
    """Texts made up of words in no order, and good ones with something changed: told rightly or refused."""

    WORDS = KEPT + ["(", ")", "x", "y", "main", "q", "0", "1", "12"]

    def told_or_refused(self, words):
        try:
            program = read(" ".join(words))
        except NoText:
            return 0
        again = text_of(program).replace("(", " ( ").replace(")", " ) ").split()
        self.assertEqual(again, words)
        for name, rows in program:
            for row in rows:
                self.assertIs(type(row), tuple)
        return 1

    def test_words_in_no_order(self):
        chance = Random(1)
        for k in range(3000):
            middle = [chance.choice(self.WORDS) for k in range(chance.randint(0, 8))]
            self.told_or_refused(middle)
            self.told_or_refused(["part", "main"] + middle + ["end"])

    def test_good_texts_with_one_word_changed(self):
        chance = Random(2)
        told = 0
        for seed in range(60):
            words = text_of(Maker(seed).program()).replace("(", " ( ").replace(")", " ) ").split()
            for k in range(60):
                at = chance.randrange(len(words))
                changed = chance.choice(([], [chance.choice(self.WORDS)], words[at:at + 1] * 2, [chance.choice(words)]))
                told += self.told_or_refused(words[:at] + changed + words[at + 1:])
        self.assertGreater(told, 100)


class Bounds(Checks):
    def test_signs(self):
        text = "part main in x 4 end"
        for blanks in (" ", "\n"):
            for many in (5999, 6000):
                for padded in (text.ljust(many, blanks), text.rjust(many, blanks)):
                    self.assertEqual(len(padded), many)
                    self.assertEqual(read(padded), [("main", [("in", "x", 4)])])
            for many in (6001, 6002, 60000):
                self.refused(NoText, read, text.ljust(many, blanks))
                self.refused(NoText, read, text.rjust(many, blanks))

    def expressions(self, many):
        """A text with so many expressions in two parts, in rows of each kind, within others or not."""
        rows = ["out a (and (not x) (if x (number 1 1) x))", "memory m 1 0 (cut x 0 1)", "go q a b (of u y)",
                "use u p (at q a) (xor x x)", "wire w x"]
        rows += ["out b (join x (plus x x))"] * ((many - 15) // 5)
        rows += ["out b x"] * ((many - 15) % 5)
        return f"part one {' '.join(rows[:6])} end part two {' '.join(rows[6:])} end"

    def test_expressions(self):
        for many in (118, 119, 120):
            program = read(self.expressions(many))
            self.assertEqual(len(program[0][1]), 6)
        for many in (121, 122, 125, 150):
            self.refused(NoText, read, self.expressions(many))

    def test_expressions_all_within_one_another(self):
        def tree(many):
            if many < 3:
                return "x" if many == 1 else "(not x)"
            return f"(and {tree((many - 1) // 2)} {tree(many - 1 - (many - 1) // 2)})"
        for many in (119, 120):
            self.assertEqual(len(read(main(f"out y {tree(many)}"))), 1)
            self.assertEqual(len(read(main(f"out z x out y {tree(many - 1)}"))), 1)
        for many in (121, 122):
            self.refused(NoText, read, main(f"out y {tree(many)}"))
            self.refused(NoText, read, main(f"out y {tree(many - 1)} out z x"))

    def test_open_brackets(self):
        def deep(many, inner):
            return "(not " * many + inner + ")" * many
        for many in (6, 7):
            wanted = X
            for k in range(many):
                wanted = ("not", wanted)
            for row in rows_around(deep(many, "x")):
                self.assertIn(wanted, [read(main(row))[0][1][0][-1], read(main(row))[0][1][0][-1][1]])
            self.assertEqual(read(main(f"out y (and {deep(many - 1, 'x')} {deep(many - 1, 'x')})"))[0][1][0][2][1:],
                             (wanted[1], wanted[1]))
        for row in rows_around(deep(6, "(number 1 1)")):
            read(main(row))
        for many in (8, 9, 50, 1000):
            for row in rows_around(deep(many, "x")) + rows_around(deep(many - 1, "(number 1 1)")):
                self.refused(NoText, read, main(row))
            self.refused(NoText, read, main(f"out y (and x {deep(many - 1, 'x')})"))
            self.refused(NoText, read, main(f"out y (cut {deep(many - 1, 'x')} 0 1)"))
        self.refused(NoText, read, "(" * 6000)

    def test_brackets_that_were_shut_do_not_count(self):
        self.assertEqual(len(read(main("out y (not (not x)) " * 20))[0][1]), 20)
        self.assertEqual(len(read(main("use u p " + "(not (not x)) " * 8))[0][1][0][3]), 8)

    def test_parts(self):
        for many in (1, 7, 8):
            self.assertEqual(len(read("part main in x 4 end " * many)), many)
        for many in (0, 9, 10):
            self.refused(NoText, read, "part main in x 4 end " * many)

    def test_rows(self):
        for many in (1, 39, 40):
            self.assertEqual(len(read(main("in x 4 " * many))[0][1]), many)
            self.assertEqual(len(read("part a in x 4 end " + main("in x 4 " * many))[1][1]), many)
        for many in (0, 41, 42, 100):
            self.refused(NoText, read, main("in x 4 " * many))
            self.refused(NoText, read, main("in x 4 " * many) + " part a in x 4 end")

    def test_rooms(self):
        for many in (1, 7, 8):
            self.assertEqual(read(main("rooms q " + "a " * many)), [("main", [("rooms", "q", ("a",) * many)])])
        for many in (0, 9, 10):
            self.refused(NoText, read, main("rooms q " + "a " * many))

    def test_expressions_in_a_use(self):
        for many in (0, 7, 8):
            self.assertEqual(read(main("use u p " + "x " * many)), [("main", [("use", "u", "p", (X,) * many)])])
        for many in (9, 10):
            self.refused(NoText, read, main("use u p " + "x " * many))
            self.refused(NoText, read, main("use u p " + "(number 1 1) " * many))
