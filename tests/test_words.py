"""Words, marks and blanks of texts, as read takes them."""

from gatepapers.errors import NoText
from gatepapers.reading import read
from gatepapers.words import is_name, words_of
from tests.helper import KEPT, ODD_THINGS, Checks


def with_name(name):
    return f"part main in {name} 4 end"


def with_number(number):
    return f"part main in x {number} end"


class Letters(Checks):
    def test_one_to_eight(self):
        for name in ("a", "z", "ab", "abcdefg", "abcdefgh", "zzzzzzzz", "ijklmnop", "qrstuvwx", "yz"):
            self.assertEqual(read(with_name(name)), [("main", [("in", name, 4)])])

    def test_nine_are_no_word(self):
        for name in ("abcdefghi", "a" * 9, "a" * 10, "a" * 100, "memoryout"):
            self.refused(NoText, read, with_name(name))

    def test_no_great_letters_and_other_signs(self):
        for sign in [chr(code) for code in range(128)]:
            if not ("a" <= sign <= "z" or sign in "() \n"):
                for text in (with_name(sign), with_name("a" + sign), with_name(sign + "a"), with_name(f"a{sign}b")):
                    self.refused(NoText, read, text)

    def test_no_sign_but_blanks_and_line_feeds_parts_words(self):
        text = "part main in x 4 end"
        for sign in [chr(code) for code in range(128)]:
            if sign in " \n":
                self.assertEqual(read(text.replace(" ", sign)), [("main", [("in", "x", 4)])])
            else:
                self.refused(NoText, read, text.replace(" ", sign))
                self.refused(NoText, read, text + " " + sign)
                self.refused(NoText, read, sign + " " + text)


class Figures(Checks):
    def test_one_to_three(self):
        for number in list(range(1000)):
            program = read(with_number(number))
            self.assertEqual(program, [("main", [("in", "x", number)])])
            self.whole(program[0][1][0][2])

    def test_four_are_no_word(self):
        for number in ("1000", "9999", "10000", "1" * 50):
            self.refused(NoText, read, with_number(number))

    def test_no_0_ahead(self):
        for number in ("00", "01", "000", "001", "010", "099", "0000"):
            self.refused(NoText, read, with_number(number))

    def test_other_ways_to_write_one(self):
        for number in ("-1", "+1", "1.0", "1_0", "0x1", "1e1", ""):
            self.refused(NoText, read, with_number(number))


class Together(Checks):
    def test_letters_and_figures_never_touch(self):
        for word in ("a1", "1a", "a1b", "1a1", "x4", "4x", "abcdefg1", "12a"):
            self.refused(NoText, read, with_name(word))
            self.refused(NoText, read, with_number(word))
        self.refused(NoText, read, "part main in x4 end")
        self.refused(NoText, read, "part main in x 4end")

    def test_no_words_are_refused_wherever_they_stand(self):
        words = "part main in x 4 end".split()
        for word in ("a1", "1a", "abcdefghi", "1000", "00", "01", "X", "x_y", "\t", "-", "\"", "#"):
            for k in range(len(words) + 1):
                self.refused(NoText, read, " ".join(words[:k] + [word] + words[k:]))
            self.refused(NoText, words_of, word)

    def test_words_that_touch_are_one(self):
        self.refused(NoText, read, "partmain in x 4 end")
        self.refused(NoText, read, "part main inx 4 end")
        self.assertEqual(read("part main out y xy end"), [("main", [("out", "y", ("name", "xy"))])])

    def test_blanks_anywhere(self):
        wanted = [("main", [("in", "x", 4), ("out", "y", ("plus", ("name", "x"), ("number", 4, 12)))])]
        words = "part main in x 4 out y ( plus x ( number 4 12 ) ) end".split()
        for gap in (" ", "\n", "  ", "\n\n", " \n ", " " * 50):
            self.assertEqual(read(gap.join(words)), wanted)
            self.assertEqual(read(gap + " ".join(words)), wanted)
            self.assertEqual(read(" ".join(words) + gap), wanted)

    def test_words_beside_marks(self):
        wanted = [("main", [("out", "y", ("not", ("number", 1, 1))), ("out", "z", ("not", ("not", ("name", "x"))))])]
        self.assertEqual(read("part main out y(not(number 1 1))out z(not(not x))end"), wanted)
        self.assertEqual(read("part main out y ( not ( number 1 1 ) ) out z ( not ( not x ) ) end"), wanted)


class Kept(Checks):
    def test_kept_words_are_no_names(self):
        for word in KEPT:
            for text in (
                f"part {word} in x 4 end", f"part main in {word} 4 end", f"part main out {word} x end",
                f"part main wire {word} x end", f"part main memory {word} 4 0 x end", f"part main rooms {word} a end",
                f"part main rooms q {word} end", f"part main go {word} a b x end", f"part main go q {word} b x end",
                f"part main go q a {word} x end", f"part main use {word} p end", f"part main use u {word} end",
                f"part main out y {word} end", f"part main out y (of {word} y) end", f"part main out y (of u {word}) end",
                f"part main out y (at {word} a) end", f"part main out y (at q {word}) end",
                f"part main out y (not {word}) end", f"part main use u p {word} end",
            ):
                self.refused(NoText, read, text)

    def test_names_are_no_kept_words(self):
        for word in ("foo", "parts", "ins", "outs", "room", "name", "nor", "i", "andd", "ends", "main"):
            self.refused(NoText, read, f"{word} main in x 4 end")
            self.refused(NoText, read, f"part main {word} x 4 end")
            self.refused(NoText, read, f"part main {word} x y end")
            self.refused(NoText, read, f"part main in x 4 {word}")
            self.refused(NoText, read, f"part main out y ({word} x x) end")
            self.refused(NoText, read, f"part main out y ({word} x) end")
            self.refused(NoText, read, f"part main out y ({word}) end")

    def test_words_near_kept_ones_are_names(self):
        for word in ("parts", "ends", "ins", "outt", "wires", "room", "numbers", "off", "ata", "nota", "ifs", "name",
                     "a", "i", "n", "o", "memor", "memoryx", "true", "none"):
            self.assertEqual(read(with_name(word)), [("main", [("in", word, 4)])])


class Words(Checks):
    def test_words_and_marks_in_their_order(self):
        self.assertEqual(words_of("part a(b 12)0\n"), ["part", "a", "(", "b", 12, ")", 0])
        self.assertEqual(words_of(""), [])
        self.assertEqual(words_of(" \n"), [])

    def test_only_texts_have_words(self):
        for thing in ODD_THINGS + [0, 7]:
            self.refused(NoText, words_of, thing)

    def test_names(self):
        for word in ["a", "main", "name"]:
            self.assertIs(is_name(word), True)
        for word in KEPT + ["(", ")", 0, 12, None]:
            self.assertIs(is_name(word), False)
