"""Every example of the interface, with the answers that are written there."""

import doctest
import unittest

# The examples of one file go on with the names of those ahead of it.
EXAMPLES = [
    ("pixels", """
>>> from paintershouse.pixels import blended, faded, mixed, put_together, scaled
>>> scaled(7, 8), mixed(2, 12, 5), put_together("screen", 6, 9), put_together("apart", 3, 10)
(4, 5, 11, 7)
>>> blended("plain", (0, 15, 0, 15), (15, 0, 0, 15), 8), blended("times", (8, 8, 8, 10), (4, 15, 0, 6), 15), faded((1, 2, 3, 9), 5)
((8, 7, 0, 15), (6, 9, 4, 12), (1, 2, 3, 6))
"""),
    ("pictures", """
>>> from paintershouse.pictures import cut_out, differing, flipped, laid, turned
>>> red, blue, none = (15, 0, 0, 15), (0, 0, 15, 15), (0, 0, 0, 0)
>>> picture = ((red, none), (blue, blue))
>>> flipped(picture), turned(picture) == ((blue, red), (blue, none)), cut_out(picture, 1, 1, 1, 2)
(((none, red), (blue, blue)), True, ((blue,), (none,)))
>>> differing(picture, laid("plain", picture, flipped(picture), 15))
[(1, 0)]
"""),
    ("texts", r"""
>>> from paintershouse.texts import picture_text, read_picture
>>> picture_text(picture), read_picture("f00f 0000\n00ff 00ff\n") == picture
('f00f 0000\n00ff 00ff\n', True)
"""),
    ("regions", """
>>> from paintershouse.regions import both, less, moved, others, points_in, region_of, size_in, turned_region
>>> ring = region_of([(0, 0), (1, 0), (2, 0), (0, 1), (2, 1), (0, 2), (1, 2), (2, 2)])
>>> ring, size_in(ring), others((3, 3), ring)
(((0, 0, 2), (1, 0, 0), (1, 2, 2), (2, 0, 2)), 8, ((1, 1, 1),))
>>> moved((3, 3), ring, 1, 1), less(ring, ((0, 0, 1),)), turned_region((3, 2), ((0, 0, 1),))
(((1, 1, 2), (2, 1, 1)), ((0, 2, 2), (1, 0, 0), (1, 2, 2), (2, 0, 2)), ((0, 1, 1), (1, 1, 1)))
"""),
    ("parts", """
>>> from paintershouse.parts import filled, holes, judge_join, parts, parts_less_holes
>>> len(parts(ring, 4)), holes(ring, 4), filled(ring, 4), parts_less_holes(ring, 8)
(1, [((1, 1, 1),)], ((0, 0, 2), (1, 0, 2), (2, 0, 2)), 0)
>>> across = ((0, 0, 0), (1, 1, 1))
>>> len(parts(across, 4)), len(parts(across, 8)), judge_join(across, 4, (0, 0), (1, 1), ("wall", ((0, 0, 0),)))
(2, 1, True)
"""),
    ("grown", """
>>> from paintershouse.grown import closed, grown, opened, shrunk
>>> cross = ((-1, 0), (0, -1), (0, 0), (0, 1), (1, 0))
>>> grown((3, 3), ((1, 1, 1),), cross), shrunk((3, 3), ((0, 0, 2), (1, 0, 2)), cross), opened((3, 3), ((1, 0, 2),), cross)
(((0, 1, 1), (1, 0, 2), (2, 1, 1)), ((0, 0, 2),), ())
>>> closed((3, 3), ring, cross)
((0, 0, 2), (1, 0, 2), (2, 0, 2))
"""),
]


class ExamplesTests(unittest.TestCase):
    def test_examples(self):
        names = {}
        for file, text in EXAMPLES:
            for example in doctest.DocTestParser().get_examples(text):
                with self.subTest(file=file, line=example.source):
                    self.run_example(example, names)

    def run_example(self, example, names):
        if not example.want:
            exec(example.source, names)
            return
        answer = eval(example.source, names)
        # The names of colours stand in written answers, too.
        self.assertEqual(repr(answer), repr(eval(example.want, names)))


if __name__ == "__main__":
    unittest.main()
