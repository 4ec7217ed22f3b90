"""[7.2] to [7.4]: the least lengths, tree papers, and the signs' codes."""

import itertools
import unittest

from paintershouse.errors import NotAllowed
from paintershouse.leastcodes import codes_of, judge_tree, least_lengths, total_of, tree_paper
from tests.making import Maker

WRONG_COUNTS = ((), (0,), (1, 0), (601,), (-1, 3), (1,) * 601)


def fits(lengths):
    """Tells whether 1 / 2 ** length come to at most 1 together."""
    greatest = max(lengths)
    return sum(2 ** (greatest - length) for length in lengths) <= 2 ** greatest


def plain_lengths(counts):
    """The words of [7.2]: a list of nodes, each with its count, when it was there, and its signs."""
    nodes = [(count, at, [at]) for at, count in enumerate(counts)]
    lengths = [0] * len(counts)
    made = len(counts)
    while len(nodes) > 1:
        nodes.sort()
        (low, _, some), (high, _, more) = nodes[:2]
        for sign in some + more:
            lengths[sign] += 1
        nodes = nodes[2:] + [(low + high, made, some + more)]
        made += 1
    return tuple(lengths)


def all_lengths(many):
    return [lengths for lengths in itertools.product(range(many + 1), repeat=many) if fits(lengths)]


def all_papers(counts):
    """All tree papers for counts, in whatever order the nodes are put together."""
    def grow(paper, free):
        if len(free) == 1:
            yield tuple(paper)
            return
        for first, second in itertools.permutations(free, 2):
            node = (paper[first][0] + paper[second][0], first, second)
            rest = [at for at in free if at not in (first, second)] + [len(paper)]
            yield from grow(paper + [node], rest)
    yield from grow([(count, -1, -1) for count in counts], list(range(len(counts))))


def lengths_told(counts, paper):
    """How many triples are above each sign."""
    def above(at):
        for k, (_, first, second) in enumerate(paper):
            if at in (first, second):
                return 1 + above(k)
        return 0
    return tuple(above(at) for at in range(len(counts)))


def plain_right(paper):
    """Tells by all rows of pairs whether counts never fall in one of them."""
    pairs = [(paper[first][0], paper[second][0]) for _, first, second in paper if first >= 0]
    for row in itertools.permutations(pairs):
        for sides in itertools.product((False, True), repeat=len(row)):
            flat = [count for pair, turned in zip(row, sides) for count in (pair[::-1] if turned else pair)]
            if flat == sorted(flat):
                return True
    return False


class LengthsTests(unittest.TestCase):
    def test_examples(self):
        self.assertEqual(least_lengths((5, 1, 2)), (1, 2, 2))
        self.assertEqual(least_lengths((600,)), (0,))
        self.assertEqual(least_lengths((1, 600)), (1, 1))
        self.assertEqual(least_lengths((1, 1, 1)), (2, 2, 1))
        self.assertEqual(least_lengths((1, 1, 1, 1)), (2, 2, 2, 2))

    def test_nodes_with_the_same_count(self):
        # The 2 that was there as a sign comes ahead of the 2 that is made of 1 and 1.
        self.assertEqual(least_lengths((1, 1, 2, 2)), (2, 2, 2, 2))
        self.assertEqual(least_lengths((2, 1, 1, 3)), (2, 3, 3, 1))
        self.assertEqual(least_lengths((3, 3, 3, 3, 3)), (2, 2, 2, 3, 3)[::-1])

    def test_plain_reading(self):
        maker = Maker(91)
        for many in list(range(1, 30)) + [200]:
            for greatest in (1, 2, 5, 600):
                counts = tuple(maker.number(1, greatest) for _ in range(many))
                self.assertEqual(least_lengths(counts), plain_lengths(counts))

    def test_no_lengths_have_a_smaller_total(self):
        for many in (1, 2, 3, 4):
            for counts in itertools.product((1, 2, 3, 7), repeat=many):
                least = min(sum(c * l for c, l in zip(counts, lengths)) for lengths in all_lengths(many))
                self.assertEqual(total_of(counts, least_lengths(counts)), least)

    def test_600_signs(self):
        for counts in ((1,) * 600, (600,) * 600, tuple(range(1, 601)), tuple(range(600, 0, -1))):
            lengths = least_lengths(counts)
            self.assertEqual(lengths, plain_lengths(counts))
            self.assertTrue(judge_tree(counts, lengths, tree_paper(counts)))

    def test_wrong_counts(self):
        for counts in WRONG_COUNTS:
            self.assertRaises(NotAllowed, least_lengths, counts)
            self.assertRaises(NotAllowed, tree_paper, counts)
            self.assertRaises(NotAllowed, total_of, counts, (1,) * len(counts))
            self.assertRaises(NotAllowed, judge_tree, counts, (1,) * len(counts), ())


class TotalTests(unittest.TestCase):
    def test_totals(self):
        self.assertEqual(total_of((5, 1, 2), (1, 2, 2)), 11)
        self.assertEqual(total_of((5, 1, 2), (600, 600, 600)), 4800)
        self.assertEqual(total_of((600,), (0,)), 0)
        self.assertEqual(total_of((3,), (7,)), 21)

    def test_wrong_lengths(self):
        for lengths in ((), (1, 2), (1, 2, 2, 2), (1, 1, 2), (0, 1, 1), (1, 2, 601), (-1, 2, 2), (0, 600, 600)):
            self.assertRaises(NotAllowed, total_of, (5, 1, 2), lengths)
            self.assertRaises(NotAllowed, judge_tree, (5, 1, 2), lengths, tree_paper((5, 1, 2)))
        self.assertRaises(NotAllowed, total_of, (5, 5), (0, 0))
        self.assertRaises(NotAllowed, total_of, (5, 5), (0, 600))

    def test_the_sum_is_told_exactly(self):
        # 1/2 + 1/4 + .. + 1 / 2 ** 599 + twice 1 / 2 ** 599 is just 1; any more is too much.
        chain = tuple(range(1, 600)) + (599,)
        self.assertEqual(total_of((1,) * 600, chain), sum(chain))
        self.assertRaises(NotAllowed, total_of, (1,) * 600, tuple(range(1, 599)) + (598, 600))


class PaperTests(unittest.TestCase):
    def test_example(self):
        wanted = ((5, -1, -1), (1, -1, -1), (2, -1, -1), (3, 1, 2), (8, 3, 0))
        self.assertEqual(tree_paper((5, 1, 2)), wanted)
        self.assertEqual(tree_paper((4,)), ((4, -1, -1),))
        self.assertIs(judge_tree((4,), (0,), ((4, -1, -1),)), True)
        self.assertIs(judge_tree((4,), (1,), ((4, -1, -1),)), False)

    def test_papers_of_the_least_lengths_are_right(self):
        maker = Maker(92)
        for many in range(1, 40):
            counts = tuple(maker.number(1, maker.one_of((3, 600))) for _ in range(many))
            self.assertIs(judge_tree(counts, least_lengths(counts), tree_paper(counts)), True)

    def test_gallager(self):
        for many in (1, 2, 3, 4):
            for counts in itertools.combinations_with_replacement((1, 2, 3, 5), many):
                for mixed in sorted({counts, counts[::-1]}):
                    self.check_theorem(mixed)

    def check_theorem(self, counts):
        """There is a right paper for lengths just if their total is the least one."""
        shown = set()
        for paper in all_papers(counts):
            lengths = lengths_told(counts, paper)
            right = judge_tree(counts, lengths, paper)
            self.assertIs(right, plain_right(paper))
            if right:
                shown.add(lengths)
        totals = {lengths: sum(c * l for c, l in zip(counts, lengths)) for lengths in all_lengths(len(counts))}
        least = {lengths for lengths in totals if totals[lengths] == min(totals.values())}
        self.assertEqual(shown, least)

    def test_wrong_papers(self):
        counts, lengths = (5, 1, 2), (1, 2, 2)
        right = tree_paper(counts)
        wrong = [
            (), right[:4], right[1:], right + ((8, 3, 0),), right + ((16, 4, 4),), right[:3] + ((3, 1, 2), (9, 3, 0)),
            right[:3] + ((3, 1, 1), (8, 3, 0)), right[:3] + ((3, 1, 2), (6, 3, 3)), right[:3] + ((4, 1, 2), (9, 3, 0)),
            right[:3] + ((3, 1, 2), (8, 4, 0)), right[:3] + ((3, 1, 2), (8, 3, 5)), right[:3] + ((3, 1, 2), (6, 3, -1)),
            right[:3] + ((3, -2, -3), (8, 3, 0)), ((5, 0, 0),) + right[1:], ((4, -1, -1),) + right[1:4] + ((7, 3, 0),),
            ((5, -1, -2),) + right[1:], right[:2] + right[3:], (right[1], right[0]) + right[2:],
            right[:3] + ((3, 1, 2), (3, 1, 2)), right[:3] + ((8, 4, 0), (3, 1, 2)), right[:3] + ((3, 1, 2), (8, -1, -1)),
        ]
        for paper in wrong:
            self.assertIs(judge_tree(counts, lengths, paper), False, paper)
        self.assertIs(judge_tree(counts, lengths, right[:3] + ((3, 2, 1), (8, 0, 3))), True)

    def test_papers_for_other_lengths(self):
        for lengths in all_lengths(3):
            right = judge_tree((5, 1, 2), lengths, tree_paper((5, 1, 2)))
            self.assertIs(right, lengths == (1, 2, 2))


class CodesTests(unittest.TestCase):
    def test_examples(self):
        self.assertEqual(codes_of((1, 2, 2)), ("0", "10", "11"))
        self.assertEqual(codes_of((2, 1, 2)), ("10", "0", "11"))
        self.assertEqual(codes_of((3, 3, 1, 2)), ("110", "111", "0", "10"))
        self.assertEqual(codes_of((0,)), ("",))

    def test_words_of_the_document(self):
        maker = Maker(93)
        for many in range(2, 40):
            lengths = least_lengths(tuple(maker.number(1, 60) for _ in range(many)))
            codes = codes_of(lengths)
            self.assertEqual(tuple(len(code) for code in codes), lengths)
            row = [codes[sign] for length, sign in sorted((length, sign) for sign, length in enumerate(lengths))]
            self.assertEqual(set(row[0]), {"0"})
            for one, other in zip(row, row[1:]):
                self.assertEqual(other, format(int(one, 2) + 1, "b").zfill(len(one)).ljust(len(other), "0"))
                self.assertFalse(other.startswith(one))
            for one, other in itertools.combinations(codes, 2):
                self.assertFalse(one.startswith(other) or other.startswith(one))

    def test_long_codes(self):
        codes = codes_of(tuple(range(1, 600)) + (599,))
        self.assertEqual(codes[0], "0")
        self.assertEqual(codes[598:], ("1" * 598 + "0", "1" * 599))
        self.assertEqual(len(codes_of((9,) * 424 + (10,) * 176)), 600)

    def test_wrong_lengths(self):
        for lengths in ((), (1,), (1, 1, 1), (1, 2), (0, 0), (-1,), (1, 2, 3), (0, 600), (601,), (2, 2, 2), (-1, 1, 2)):
            self.assertRaises(NotAllowed, codes_of, lengths)
        # 601 signs whose sum comes to 1.
        self.assertRaises(NotAllowed, codes_of, (9,) * 423 + (10,) * 178)
        self.assertRaises(NotAllowed, codes_of, tuple(range(1, 601)) + (600,))


if __name__ == "__main__":
    unittest.main()
