"""Papers written: helpers, statements, and by what they are shown."""

from gatepapers.papers import looked
from gatepapers.writing import Writer, held_memories, steady_spots, twin_paper, twins
from tests.helper import Checks

CIRCUIT = (2, [(0, 3), (1, 5)], [(1, ()), (8, (0, 2)), (6, (3, 5))], [6, 4])


class Writers(Checks):
    def test_steady_spots(self):
        self.assertEqual(steady_spots(0, CIRCUIT), [(0, 4)])
        self.assertEqual(steady_spots(1, CIRCUIT), [(1, 4)])
        self.assertEqual(steady_spots(1, (3, [], [(8, (0, 1))], [])), [])

    def test_helpers_are_laid_once(self):
        writer = Writer(CIRCUIT, CIRCUIT)
        self.assertEqual(writer.lay(8, [(0, 0), (0, 1)]), (2, 0))
        self.assertEqual(writer.lay(8, [(0, 1), (0, 0)]), (2, 1))
        self.assertEqual(writer.lay(8, [(0, 0), (0, 1)]), (2, 0))
        self.assertEqual(writer.lay_steady(1), (2, 2))
        self.assertEqual(writer.lay_steady(1), (2, 2))
        self.assertEqual(writer.lay_steady(0), (2, 3))
        self.assertEqual(writer.paper([])[0], [(8, ((0, 0), (0, 1))), (8, ((0, 1), (0, 0))), (1, ()), (0, ())])

    def test_statements_are_numbered(self):
        writer = Writer(CIRCUIT, CIRCUIT)
        writer.hold((0, 2), (1, 2))
        writer.hold((0, 3), (1, 3))
        writer.claim((0, 4), (1, 4), [], [])
        writer.claim_by((0, 5), (1, 5), [((0, 0), (1, 0)), ((0, 2), (1, 2))])
        writer.show_held((0, 2), (1, 2), [3], [])
        writer.show_held_by((0, 3), (1, 3), [((0, 5), (1, 5))])
        ends = [((0, 0), (1, 0)), ((0, 3), (1, 3)), ((0, 5), (1, 5))]
        self.assertEqual(writer.paper(ends), (
            [],
            [((0, 2), (1, 2), [3], []), ((0, 3), (1, 3), [(0, 5), (1, 5)], [5])],
            [((0, 4), (1, 4), [], []), ((0, 5), (1, 5), [(0, 0), (1, 0), (0, 2), (1, 2)], [0, 2])],
            [0, 3, 5],
        ))

    def test_what_is_leaned_on(self):
        writer = Writer(CIRCUIT, CIRCUIT)
        unlike = writer.lay(6, [(0, 0), (0, 1)])
        other = writer.lay(1, [unlike])
        steady = writer.lay_steady(0)
        writer.hold(steady, (0, 2))
        writer.claim(unlike, (1, 5), [], [])
        writer.claim(other, (1, 6), [], [])
        # Gates and helpers without places need no bit, a not has that of what it reads, and nothing is told twice.
        self.assertEqual(writer.leaned([(steady, (0, 2))]), ([(0, 2)], [2]))
        self.assertEqual(writer.leaned([(other, (1, 6)), (unlike, (1, 5))]), ([unlike, (1, 6), (1, 5)], [4, 3]))
        self.assertEqual(writer.leaned([((0, 0), (1, 0)), ((0, 0), (1, 0))]), ([(0, 0), (1, 0)], [0]))
        self.assertEqual(writer.leaned([((0, 1), (0, 1))]), ([(0, 1)], []))
        self.assertEqual(writer.leaned([((0, 4), (0, 4))]), ([], []))

    def test_a_helper_that_others_reckon_has_no_bit(self):
        # The gate 5 doesn't hang on its last place, 4, and is the same as it: so the helper must not have any bit.
        circuit = (3, [], [(216, (0, 1, 2)), (8, (0, 1)), (136, (0, 1, 4))], [5])
        writer = Writer(circuit, circuit)
        both = writer.lay(8, [(0, 0), (0, 1)])
        writer.claim_by(both, (0, 4), [((0, 0), (0, 0)), ((0, 1), (0, 1))])
        writer.claim_by(both, (0, 5), [((0, 0), (0, 0)), ((0, 1), (0, 1)), (both, (0, 4))])
        self.assertEqual(writer.claims[1], (both, (0, 5), [(0, 0), (0, 1), (0, 4)], [3]))
        # Where they don't reckon it, it has one.
        writer.claim_by(both, (0, 5), [((0, 0), (0, 0)), (both, (0, 4))])
        self.assertEqual(writer.claims[2], (both, (0, 5), [(0, 0), both, (0, 4)], [3]))


class Twins(Checks):
    def test_pairs(self):
        self.assertEqual(twins([0, 2, 1], [2, 0]), [((0, 2), (1, 1)), ((0, 0), (1, 0))])
        self.assertEqual(twins({4: 7}, (4,)), [((0, 4), (1, 7))])
        self.assertEqual(held_memories(CIRCUIT), [(2, [3]), (3, [5])])

    def test_a_paper_for_gates_in_another_order(self):
        other = (2, [(0, 3), (1, 4)], [(8, (0, 2)), (6, (3, 4)), (1, ())], [5, 6])
        news = [0, 1, 2, 3, 6, 4, 5]
        claimed = [(4, ()), (5, (0, 2)), (6, (3, 5))]
        paper = twin_paper(CIRCUIT, other, news, held_memories(CIRCUIT), claimed)
        self.same_by_paper(CIRCUIT, other, paper)
        self.assertEqual(paper[3], [6, 4])
        for place in (0, 4):
            wrong = (2, other[1], other[2], [place, 6])
            self.assertIs(looked(CIRCUIT, wrong, paper), False)
