"""Programs run: values of expressions, states, turns."""

from copy import deepcopy
from itertools import product

from gatepapers.kinds import look_over
from gatepapers.reading import read
from gatepapers.turns import first_state, run, turn
from tests.helper import Checks, Maker, Model, lists_within, to_number


def main(rows):
    program = read(f"part main {rows} end")
    look_over(program)
    return program


def numbers(width):
    """All numbers of a small width, the edges and some between of a great one."""
    if width <= 3:
        return list(range(2 ** width))
    top = 2 ** width
    return [0, 1, 2, top // 2 - 1, top // 2, top // 2 + 1, top * 2 // 3, top - 2, top - 1]


class Values(Checks):
    def tells(self, rows, widths, wanted):
        """That out y of these rows, with ins a, b, c of such widths, tells what is wanted of them."""
        ins = " ".join([f"in {name} {width}" for name, width in zip("abc", widths)])
        program = main(f"{ins} {rows}")
        for values in product(*[numbers(width) for width in widths]):
            outs, state = turn(program, "main", [], list(values))
            self.assertEqual(outs, [wanted(*values)], (rows, widths, values))
            self.assertEqual(state, [])
            self.whole(outs[0])

    def test_bit_by_bit(self):
        for width in range(1, 9):
            top = 2 ** width
            self.tells("out y (not a)", [width], lambda a: top - 1 - a)
            self.tells("out y (and a b)", [width] * 2, lambda a, b: sum(
                [2 ** k for k in range(width) if a >> k & 1 and b >> k & 1]))
            self.tells("out y (or a b)", [width] * 2, lambda a, b: sum(
                [2 ** k for k in range(width) if a >> k & 1 or b >> k & 1]))
            self.tells("out y (xor a b)", [width] * 2, lambda a, b: sum(
                [2 ** k for k in range(width) if (a >> k & 1) != (b >> k & 1)]))

    def test_plus_and_minus(self):
        for width in range(1, 9):
            top = 2 ** width
            self.tells("out y (plus a b)", [width] * 2, lambda a, b: a + b if a + b < top else a + b - top)
            self.tells("out y (minus a b)", [width] * 2, lambda a, b: a - b if a >= b else a - b + top)

    def test_what_passes_the_width_is_gone(self):
        self.tells("out y (join (plus a b) (number 1 0))", [3, 3], lambda a, b: (a + b) % 8)
        self.tells("out y (join (minus a b) (number 1 0))", [3, 3], lambda a, b: (a - b) % 8)
        self.tells("out y (join (not a) (number 1 0))", [3], lambda a: 7 - a)
        self.tells("out y (less (plus a b) a)", [3, 3], lambda a, b: int((a + b) % 8 < a))
        self.tells("out y (same (plus a b) (number 3 0))", [3, 3], lambda a, b: int((a + b) in (0, 8)))
        self.tells("out y (cut (plus a b) 2 1)", [3, 3], lambda a, b: (a + b) % 8 // 4)

    def test_same_and_less(self):
        for width in range(1, 9):
            self.tells("out y (same a b)", [width] * 2, lambda a, b: int(a == b))
            self.tells("out y (less a b)", [width] * 2, lambda a, b: int(a < b))

    def test_if(self):
        for width in range(1, 9):
            self.tells("out y (if a b c)", [1, width, width], lambda a, b, c: b if a == 1 else c)

    def test_join(self):
        for low in range(1, 8):
            for high in range(1, 9 - low):
                self.tells("out y (join a b)", [low, high], lambda a, b: a + 2 ** low * b)

    def test_cut(self):
        for width in range(1, 9):
            for low in range(width):
                for many in range(1, width - low + 1):
                    self.tells(f"out y (cut a {low} {many})", [width], lambda a: a // 2 ** low % 2 ** many)

    def test_numbers_and_names(self):
        for width in range(1, 9):
            for number in numbers(width):
                self.assertEqual(run(main(f"out y (number {width} {number})"), [[]]), [[number]])
            self.tells("out y a", [width], lambda a: a)
            self.tells("wire w a out y w", [width], lambda a: a)

    def test_within_one_another(self):
        self.tells("out y (if (less a b) (minus b a) (minus a b))", [4, 4], lambda a, b: abs(a - b))
        self.tells("wire w (plus a b) wire v (xor w a) out y (and v (not b))", [4, 4],
                   lambda a, b: (((a + b) % 16) ^ a) & (15 - b))
        self.tells("out y (join (cut a 2 2) (cut a 0 2))", [4], lambda a: a // 4 + a % 4 * 4)

    def test_what_is_handed_to_a_use(self):
        part = "part p in a 3 in b 2 out y (join a b) out z (minus a (join b (number 1 0))) end "
        program = read(part + "part main in a 3 in b 2 use u p (plus a (number 3 1)) (not b) out y (of u z) out z (of u y) end")
        look_over(program)
        for a, b in product(range(8), range(4)):
            one, other = (a + 1) % 8, 3 - b
            self.assertEqual(turn(program, "main", [[]], [a, b]), ([(one - other) % 8, one + 8 * other], [[]]))


class Memories(Checks):
    def test_first_states(self):
        program = read("part p memory m 4 9 m rooms q a b end "
                       "part r use u p memory k 2 1 k use v p end "
                       "part main in x 1 rooms q a memory m 8 255 m out y x use u r memory k 1 0 k use w p end")
        look_over(program)
        self.assertEqual(first_state(program, "p"), [9, 0])
        self.assertEqual(first_state(program, "r"), [[9, 0], 1, [9, 0]])
        self.assertEqual(first_state(program, "main"), [0, 255, [[9, 0], 1, [9, 0]], 0, [9, 0]])

    def test_no_things_no_state(self):
        program = main("in x 1 wire w x out y w")
        self.assertEqual(first_state(program, "main"), [])
        self.assertEqual(turn(program, "main", [], [1]), ([1], []))

    def test_the_example(self):
        program = main("in x 4 memory sum 4 0 (plus sum x) out y sum")
        self.assertEqual(run(program, [[5], [6], [7], [0], [1]]), [[0], [5], [11], [2], [2]])
        self.assertEqual(turn(program, "main", [9], [8]), ([9], [1]))

    def test_all_take_what_stood_ahead(self):
        program = main("memory a 2 0 b memory b 2 1 c memory c 2 2 a out x a out y b out z c")
        self.assertEqual(run(program, [[]] * 4), [[0, 1, 2], [1, 2, 0], [2, 0, 1], [0, 1, 2]])
        self.assertEqual(turn(program, "main", [3, 0, 1], []), ([3, 0, 1], [0, 1, 3]))

    def test_a_row_of_memories(self):
        program = main("in x 1 memory a 1 0 x memory b 1 0 a memory c 1 0 b out y c")
        self.assertEqual(run(program, [[1], [0], [1], [1], [0], [0]]), [[0], [0], [0], [1], [0], [1]])

    def test_outs_are_those_ahead_of_the_turn(self):
        program = main("in x 2 out y m out z w memory m 2 3 w wire w (plus m x)")
        self.assertEqual(turn(program, "main", [3], [2]), ([3, 1], [1]))

    def test_memories_by_wires_and_uses_of_rows_behind(self):
        part = "part p in a 2 memory k 2 1 a out y (plus a k) end "
        program = read(part + "part main memory m 2 0 (of u y) out o (xor m w) wire w x use u p w in x 2 end")
        look_over(program)
        self.assertEqual(turn(program, "main", [2, [3]], [1]), ([3], [0, [1]]))
        self.assertEqual(run(program, [[1], [2], [3]]), [[1], [0], [0]])


class Rooms(Checks):
    PROGRAM = ("in x 2 rooms q a b c out y (at q a) out z (at q b) out w (at q c) "
               "go q a b (same x (number 2 1)) go q a c (cut x 0 1) go q b c (cut x 1 1) go q c a (number 1 1) go q b a (same x (number 2 3))")

    def test_the_first_that_is_1_leads(self):
        program = main(self.PROGRAM)
        wanted = {(0, 0): 0, (0, 1): 1, (0, 2): 0, (0, 3): 2, (1, 0): 1, (1, 1): 1, (1, 2): 2, (1, 3): 2,
                  (2, 0): 0, (2, 1): 0, (2, 2): 0, (2, 3): 0}
        for (room, x), later in wanted.items():
            outs, state = turn(program, "main", [room], [x])
            self.assertEqual(outs, [int(room == k) for k in range(3)])
            self.assertEqual(state, [later])
            self.whole(state[0])
            for out in outs:
                self.whole(out)

    def test_runs(self):
        program = main(self.PROGRAM)
        self.assertEqual(run(program, [[0], [1], [1], [3], [0], [3], [0]]),
                         [[1, 0, 0], [1, 0, 0], [0, 1, 0], [0, 1, 0], [0, 0, 1], [1, 0, 0], [0, 0, 1]])

    def test_order_of_go_rows(self):
        one = main("in x 1 rooms q a b c go q a b x go q a c x")
        other = main("in x 1 go q a c x rooms q a b c go q a b x")
        self.assertEqual(turn(one, "main", [0], [1]), ([], [1]))
        self.assertEqual(turn(other, "main", [0], [1]), ([], [2]))
        self.assertEqual(turn(one, "main", [0], [0]), ([], [0]))

    def test_a_way_that_leads_where_it_is_leads_too(self):
        program = main("in x 1 rooms q a b go q a a x go q a b (number 1 1)")
        self.assertEqual(turn(program, "main", [0], [1]), ([], [0]))
        self.assertEqual(turn(program, "main", [0], [0]), ([], [1]))

    def test_without_go_rows_it_stays(self):
        program = main("rooms q a b c out y (at q b)")
        for room in range(3):
            self.assertEqual(turn(program, "main", [room], []), ([int(room == 1)], [room]))

    def test_rooms_of_two_rows(self):
        program = main("in x 1 rooms q a b rooms r b a go r b a x go q a b (at r a) go q b a (at r b) out y (at q a) out z (at r a)")
        self.assertEqual(first_state(program, "main"), [0, 0])
        self.assertEqual(turn(program, "main", [0, 0], [1]), ([1, 0], [0, 1]))
        self.assertEqual(turn(program, "main", [0, 1], [1]), ([1, 1], [1, 1]))
        self.assertEqual(turn(program, "main", [1, 0], [0]), ([0, 0], [0, 0]))

    def test_at_is_the_room_ahead_of_the_turn(self):
        program = main("in x 1 rooms q a b go q a b x memory m 1 0 (at q b) wire w (at q b) out y w")
        self.assertEqual(turn(program, "main", [0, 0], [1]), ([0], [1, 0]))
        self.assertEqual(turn(program, "main", [1, 0], [1]), ([1], [1, 1]))

    def test_go_rows_ahead_of_all_they_name(self):
        program = read("part p in a 1 out y (not a) end part main go q a b (and w (of u y)) wire w x use u p m "
                       "rooms q a b in x 1 memory m 1 0 x end")
        look_over(program)
        self.assertEqual(turn(program, "main", [[], 0, 0], [1]), ([], [[], 1, 1]))
        self.assertEqual(turn(program, "main", [[], 0, 1], [1]), ([], [[], 0, 1]))


class Uses(Checks):
    TEXT = ("part count in up 1 memory n 2 0 (if up (plus n (number 2 1)) n) out y n out full (same n (number 2 3)) end "
            "part two in up 1 use low count up use high count (and up (of low full)) "
            "out y (join (of low y) (of high y)) out full (and (of low full) (of high full)) end "
            "part main in x 1 use a two x use b two (not x) out ya (of a y) out yb (of b y) out z (of a full) end")

    def test_each_has_a_state_of_its_own(self):
        program = read(self.TEXT)
        look_over(program)
        self.assertEqual(first_state(program, "main"), [[[0], [0]], [[0], [0]]])
        self.assertEqual(turn(program, "main", [[[3], [1]], [[3], [3]]], [1]), ([7, 15, 0], [[[0], [2]], [[3], [3]]]))
        self.assertEqual(turn(program, "main", [[[3], [3]], [[3], [3]]], [0]), ([15, 15, 1], [[[3], [3]], [[0], [0]]]))

    def test_runs(self):
        program = read(self.TEXT)
        rows = [[1], [1], [0], [1], [1], [1], [0]] * 4
        a = b = 0
        for (x,), outs in zip(rows, run(program, rows)):
            self.assertEqual(outs, [a, b, int(a == 15)])
            a, b = (a + x) % 16, (b + 1 - x) % 16

    def test_any_part_can_be_turned(self):
        program = read(self.TEXT)
        self.assertEqual(turn(program, "count", [2], [1]), ([2, 0], [3]))
        self.assertEqual(turn(program, "two", [[3], [0]], [1]), ([3, 0], [[0], [1]]))

    def test_the_last_part_is_run(self):
        program = read("part a out y (number 1 0) end part b out y (number 1 1) end")
        self.assertEqual(run(program, [[]]), [[1]])
        self.assertEqual(run(program[::-1], [[]]), [[0]])

    def test_ins_in_the_rows_order(self):
        program = read("part p out y (minus a b) in b 4 in a 4 end part main in k 4 out y (of u y) use u p k l out z l in l 4 end")
        self.assertEqual(turn(program, "main", [[]], [3, 7]), ([4, 7], [[]]))
        self.assertEqual(turn(program, "p", [], [3, 7]), ([4], []))

    def test_what_shares_a_name_is_not_mixed(self):
        program = read("part x in x 2 memory y 2 1 x out y (plus x y) out x y end "
                       "part main in x 2 use y x (not x) rooms z x y out x (of y y) out y (of y x) out z (at z x) end")
        look_over(program)
        self.assertEqual(turn(program, "main", [[1], 0], [1]), ([3, 1, 1], [[2], 0]))


class Runs(Checks):
    PROGRAM = read("part main in x 4 memory sum 4 0 (plus sum x) out y sum out z x end")

    def test_rows(self):
        self.assertEqual(run(self.PROGRAM, []), [])
        self.assertEqual(run(self.PROGRAM, [[3]]), [[0, 3]])
        self.assertEqual(run(self.PROGRAM, [[3], [4], [15]]), [[0, 3], [3, 4], [7, 15]])

    def test_no_ins_and_no_outs(self):
        self.assertEqual(run(main("memory m 1 0 m"), [[], []]), [[], []])
        self.assertEqual(run(main("in x 1"), [[1], [0]]), [[], []])
        self.assertEqual(run(main("memory m 1 0 (not m) out y m"), [[], [], []]), [[0], [1], [0]])

    def test_asked_again_it_tells_the_same(self):
        rows = [[3], [4], [15]]
        self.assertEqual(run(self.PROGRAM, rows), run(self.PROGRAM, rows))

    def test_a_run_is_turn_by_turn(self):
        state = first_state(self.PROGRAM, "main")
        rows = [[3], [4], [15], [1]]
        wanted = []
        for ins in rows:
            outs, state = turn(self.PROGRAM, "main", state, ins)
            wanted.append(outs)
        self.assertEqual(run(self.PROGRAM, rows), wanted)


class OwnLists(Checks):
    PROGRAM = read("part p in a 2 memory m 2 1 a rooms q r s go q r s (cut a 0 1) out y m end "
                   "part q use v p (number 2 2) use u p (of v y) end "
                   "part main in a 2 use u q use v p a out y (of v y) end")

    def test_kinds(self):
        told = turn(self.PROGRAM, "main", first_state(self.PROGRAM, "main"), [1])
        self.assertIs(type(told), tuple)
        self.assertEqual([type(thing) for thing in told], [list, list])
        self.assertEqual(type(run(self.PROGRAM, [[1]])), list)
        self.assertEqual(type(run(self.PROGRAM, [[1]])[0]), list)

    def test_what_is_handed_in_stays(self):
        look_over(self.PROGRAM)
        kept = deepcopy(self.PROGRAM)
        state = first_state(self.PROGRAM, "main")
        self.assertEqual(state, [[[1, 0], [1, 0]], [1, 0]])
        before = deepcopy(state)
        ins = [3]
        rows = [[1], [2], [3]]
        turn(self.PROGRAM, "main", state, ins)
        run(self.PROGRAM, rows)
        self.assertEqual((self.PROGRAM, state, ins, rows), (kept, before, [3], [[1], [2], [3]]))

    def test_what_is_told_is_new(self):
        state = first_state(self.PROGRAM, "main")
        rows = [[1], [2]]
        deeds = [
            lambda: first_state(self.PROGRAM, "main"), lambda: turn(self.PROGRAM, "main", state, rows[0]),
            lambda: run(self.PROGRAM, rows),
        ]
        known = lists_within(self.PROGRAM) + lists_within(state) + lists_within(rows)
        for deed in deeds:
            told = [deed() for k in range(3)]
            wanted = deepcopy(told[0])
            everything = known + lists_within(told)[1:]
            self.assertEqual(len({id(one) for one in everything}), len(everything))
            for one in lists_within(told[0]):
                one.append("more")
            self.assertEqual(told[1:], [wanted, wanted])
            self.assertEqual(deed(), wanted)

    def test_changes_behind_the_call_reach_nothing(self):
        program = deepcopy(self.PROGRAM)
        state = first_state(program, "main")
        told = turn(program, "main", state, [3])
        wanted = deepcopy(told)
        for one in lists_within(program) + lists_within(state):
            one.clear()
        self.assertEqual(told, wanted)


class MadeUp(Checks):
    """Programs made up, against what is reckoned in another way."""

    def agrees(self, program, name, state, ins):
        outs, later = turn(program, name, state, ins)
        model = Model(program, name, state, ins)
        self.assertEqual(outs, [to_number(bits) for bits in model.outs().values()])
        self.assertEqual(later, model.after())
        return later

    def test_states_come_to(self):
        for seed in range(150):
            maker = Maker(seed)
            program = maker.program()
            name = program[-1][0]
            state = first_state(program, name)
            rows = [maker.ins(program, name) for k in range(4)]
            wanted = []
            for ins in rows:
                wanted.append([to_number(bits) for bits in Model(program, name, state, ins).outs().values()])
                state = self.agrees(program, name, state, ins)
            self.assertEqual(run(program, rows), wanted)

    def test_states_of_any_kind(self):
        for seed in range(150, 300):
            maker = Maker(seed)
            program = maker.program()
            for name, rows in program:
                for k in range(3):
                    self.agrees(program, name, maker.state(program, name), maker.ins(program, name))


class Beyond(Checks):
    """What is handed in may lie somewhat beyond what a text can tell."""

    def test_wide_and_deep(self):
        deep = ("name", "x")
        for k in range(21):
            deep = ("not", deep)
        program = [("main", [("in", "x", 10), ("out", "y", deep), ("rooms", "q", tuple("abcdefghij")), ("rooms", "r", ())])]
        self.assertEqual(turn(program, "main", [9, 0], [1000]), ([23], [9, 0]))

    def test_a_part_without_rows(self):
        self.assertEqual(first_state([("main", [])], "main"), [])
        self.assertEqual(run([("main", [])], [[], []]), [[], []])
