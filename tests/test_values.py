"""[9.1]: values, their texts, and which texts are read."""

import re
import unittest

from paintershouse.errors import BadForm
from paintershouse.values import MAX_NESTED, MAX_VALUE, read_value, value_text
from tests.making import Maker

WORD = re.compile(r"_|[a-z]+|0|-?[1-9][0-9]{0,5}")


def plain_value(text, at, deep):
    """The value at a place of a text, and the place behind it; by the words of [9.1]."""
    if text[at:at + 1] == "(":
        if deep == 12:
            raise ValueError
        parts, at = [], at + 1
        while text[at:at + 1] != ")":
            if parts:
                if text[at:at + 1] != " ":
                    raise ValueError
                at += 1
            part, at = plain_value(text, at, deep + 1)
            parts.append(part)
        return tuple(parts), at + 1
    word = WORD.match(text, at)
    if word is None:
        raise ValueError
    told = word.group()
    if told == "_":
        return "", word.end()
    return told if told[0].isalpha() else int(told), word.end()


def plain_read(text):
    """The value of a text, or None."""
    try:
        value, end = plain_value(text, 0, 0)
    except ValueError:
        return None
    return value if end == len(text) else None


def made_value(maker, deep):
    way = maker.number(0, 5 if deep else 2)
    if way == 0:
        return maker.one_of(("", "a", "z", "paint", "abcdefghijklm", "group"))
    if way == 1:
        return maker.one_of((0, 1, -1, 7, 10, -10, 999999, -999999, 100000, maker.number(-500, 500)))
    if way == 2:
        return ()
    return tuple(made_value(maker, deep - 1) for _ in range(maker.number(0, 4)))


def nested(deep, value):
    for _ in range(deep):
        value = (value,)
    return value


class ValuesTests(unittest.TestCase):
    def refused(self, text, line=1):
        with self.assertRaises(BadForm) as caught:
            read_value(text)
        self.assertEqual(caught.exception.line, line, text[:50])

    def read(self, text, value):
        self.assertEqual(read_value(text), value)
        self.assertEqual(repr(read_value(text)), repr(value))
        self.assertEqual(value_text(value), text)

    def test_names(self):
        self.assertEqual((MAX_VALUE, MAX_NESTED), (60000, 12))

    def test_texts_and_integers(self):
        for text, value in (
            ("_", ""), ("a", "a"), ("abcdefghijklmnopqrstuvwxyz", "abcdefghijklmnopqrstuvwxyz"), ("0", 0), ("7", 7),
            ("-1", -1), ("10", 10), ("-10", -10), ("999999", 999999), ("-999999", -999999), ("100000", 100000),
        ):
            self.read(text, value)

    def test_tuples(self):
        for text, value in (
            ("()", ()), ("(_)", ("",)), ("(())", ((),)), ("(() ())", ((), ())), ("(a)", ("a",)), ("(a 1 _)", ("a", 1, "")),
            ("((a) b (-3 (4)))", (("a",), "b", (-3, (4,)))),
            ("(paint low ((move -1 0) (flip)) _ ())", ("paint", "low", (("move", -1, 0), ("flip",)), "", ())),
            ("(group top _ (7 -3))", ("group", "top", "", (7, -3))),
        ):
            self.read(text, value)

    def test_wrong_words(self):
        for text in (
            "", " ", "-", "--1", "+1", "-0", "00", "01", "-01", "007", "1a", "a1", "A", "aB", "a_", "_a", "__", "a-b", "a.b", "1.0", "1_0",
            "1-", "- 1", "1000000", "-1000000", "0000000", "10000000", "'a'", "\"\"", "None", "True", "a,b", "0x1", "\n", "a\n", "\na", "a b", "_ _",
            "1 2", "~", "*", "!", "/", "a\nb", "[]", "{}", "1e3",
        ):
            self.refused(text)
            self.refused("(" + text + "|)")
            if text not in ("", "a b", "_ _", "1 2"):
                self.refused("(" + text + ")")

    def test_spaces_more_and_less(self):
        for text in (
            " a", "a ", " ()", "() ", "( )", "( a)", "(a )", "(a  b)", "(a\nb)", "(a b )", "( a b)", "(()())", "(a())", "(()a)", "(a(b))", "((a)b)",
            "((a) b )", "(a ( b))", "()\n", "(a\n)",
        ):
            self.refused(text)

    def test_brackets(self):
        for text in ("(", ")", ")(", "(()", "())", "()()", "() ()", "a)", "(a", "((a)", "(a))", ")a(", "(" * 30000, ")" * 60000, "()" * 30000):
            self.refused(text)

    def test_how_deep(self):
        for value in ("", "a", -5, ()):
            for deep in range(1, 15):
                inner = deep + (value == ())
                text = value_text(nested(deep, value))
                if inner <= 12:
                    self.read(text, nested(deep, value))
                else:
                    self.refused(text)
        self.read("(" + "() " * 30 + "a)", ((),) * 30 + ("a",))
        wide = nested(11, (1, 2)), nested(10, (3,)), "a"
        self.refused(value_text(wide))
        self.read(value_text(wide[1:]), wide[1:])
        self.read(value_text(wide[0]), wide[0])
        self.refused(value_text(((),) * 5 + (nested(12, 1),)))

    def test_how_long(self):
        self.read("a" * 60000, "a" * 60000)
        self.refused("a" * 60001, 0)
        self.refused("A" * 60001, 0)
        self.refused("A" * 60000, 1)
        self.refused("1" * 60000, 1)
        self.refused("", 1)
        text = "(" + "12345 " * 9999 + "abc" + ")"
        self.assertEqual(len(text), 59999)
        self.read(text, (12345,) * 9999 + ("abc",))
        self.refused(text[:-1] + "dd)", 0)

    def test_values_there_and_back(self):
        maker = Maker(271)
        for _ in range(1500):
            value = made_value(maker, maker.number(0, 11))
            self.read(value_text(value), value)

    def test_changed_texts_against_a_plain_reader(self):
        maker = Maker(272)
        good = 0
        for _ in range(6000):
            text = value_text(made_value(maker, 5))
            if len(text) > 80:
                continue
            for _ in range(maker.number(1, 3)):
                at = maker.number(0, len(text))
                text = text[:at] + maker.one_of(("", " ", "(", ")", "a", "_", "-", "0", "1", "() ", " 7")) + text[at + maker.number(0, 1):]
            wanted = plain_read(text)
            if wanted is None:
                self.refused(text)
            else:
                good += 1
                self.read(text, wanted)
        self.assertGreater(good, 500)


if __name__ == "__main__":
    unittest.main()
