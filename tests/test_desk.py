"""[9.5] and [9.6]: scripts, their lines, and the answers."""

import unittest

from paintershouse import exchange, flooding, forall, forgetting, formats, forms, layers, pictures, smaller, texts, values
from paintershouse.desk import MAX_LINES, MAX_SCRIPT, run_script
from paintershouse.errors import BadForm, Missing, NotAllowed, PaintError, TooLarge
from paintershouse.house import House
from tests.making import NAMES, Maker
from tests.test_deeds_errors import GOOD
from tests.test_house import made_change

HOUSE = "house 2 1\n"
LOW = "do (layer _ (paint low (1 plain 15 ()) (((15 0 0 15) (0 0 0 0)))))\n"
WORDS = (
    "house", "do", "undo", "redo", "mark", "unmark", "go", "now", "many", "marks", "layers", "from", "differ", "hidden", "pixel", "row", "flood",
    "sizes", "smaller", "same", "exchange", "least", "one", "undoing", "needless",
)


def answer(line, ahead=HOUSE + LOW):
    return run_script(ahead + line)[-1]


def nested(deep):
    return "(" * deep + ")" * deep


class ScriptTests(unittest.TestCase):
    def test_names(self):
        self.assertEqual((MAX_SCRIPT, MAX_LINES), (20000, 100))

    def test_empty_scripts_and_lines(self):
        self.assertEqual(run_script(""), [""])
        self.assertEqual(run_script("\n"), ["", ""])
        self.assertEqual(run_script("\n\nhouse 1 1\n\nnow\n"), ["", "", "ok", "", "0", ""])
        self.assertEqual(run_script(" "), ["bad"])

    def test_how_many_lines(self):
        self.assertEqual(run_script("\n" * 99), [""] * 100)
        self.assertRaises(NotAllowed, run_script, "\n" * 100)
        self.assertEqual(run_script("house 1 1\n" + "now\n" * 98 + "many"), ["ok"] + ["0"] * 98 + ["1"])
        self.assertRaises(NotAllowed, run_script, "house 1 1\n" + "now\n" * 99)
        self.assertRaises(NotAllowed, run_script, "house 1 1\n" + "now\n" * 98 + "many\n")

    def test_how_many_characters(self):
        self.assertEqual(run_script("x" * 20000), ["bad"])
        self.assertRaises(NotAllowed, run_script, "x" * 20001)
        script = "house 1 1\ndo " + "a" * (20000 - 13)
        self.assertEqual(len(script), 20000)
        self.assertEqual(run_script(script), ["ok", "refused"])
        self.assertRaises(NotAllowed, run_script, script + "a")

    def test_scripts_know_nothing_of_one_another(self):
        self.assertEqual(run_script("house 1 1"), ["ok"])
        self.assertEqual(run_script("now"), ["none"])
        first = run_script("now")
        first.append("more")
        self.assertEqual(run_script("now"), ["none"])


class FormTests(unittest.TestCase):
    def test_lines_of_no_form(self):
        for line in (
            " ", "odd", "odd 1", "House 2 1", "NOW", " now", "now ", "now  ", "now 1", "undo ", "undo 1", "redo ", "redo x", "many ", "marks ", "marks a",
            "layers ", "layers low", "sizes ", "sizes 1", "house", "house ", "house 2", "house 2 ", "house 2 1 ", "house  2 1", "house 2  1",
            "house 2 1 0", "house 02 1", "house 2 01", "house -2 1", "house a 1", "house 1000000 1", "house 2 0000001", "house 00 1", "house +2 1",
            "go", "go ", "go a", "go 00", "go 01", "go -1", "go 1 ", "go 1 1", "go 1000000", "go 0000001", "from", "from ", "from -1", "from 00", "from 1 1",
            "differ", "differ ", "differ x", "differ 01", "mark", "mark ", "mark A", "mark a1", "mark a b", "mark a ", "mark  a", "mark _", "mark 1",
            "unmark", "unmark ", "unmark A", "unmark a b", "hidden", "hidden ", "hidden Low", "hidden low low", "hidden _", "pixel", "pixel 0",
            "pixel 0 ", "pixel 0 0 ", "pixel 0  0", "pixel 0 0 0", "pixel -1 0", "pixel 00 0", "pixel 0 a", "pixel 1000000 0", "row", "row ", "row -1", "row 00",
            "row 0 0", "row a", "flood", "flood 0 0", "flood 0 0 0 0", "flood 0 0 -1", "flood 0 0 01", "flood 0 0  1", "flood 0 0 1000000", "smaller",
            "smaller ", "smaller 1 1", "smaller a", "smaller 01", "do", "one", "undoing", "needless", "same", "same ", "same ()", "same () ()", "same ()|()",
            "same () |()", "same ()| ()", "same | ()", "same () |", "same  ()", "exchange", "exchange ", "exchange ()", "least", "least ", "least () ()",
            "same |", "now\t", "house 2 1\t", ".", "-", "_", "()", "do\t()", "dox ()", "samex () | ()", "undo undo",
        ):
            self.assertEqual(answer(line), "bad", line)
            self.assertEqual(run_script(line), ["bad"], line)

    def test_lines_ahead_of_house(self):
        for line in (
            "undo", "redo", "mark a", "unmark a", "go 0", "now", "many", "marks", "layers", "from 0", "differ 0", "hidden low", "pixel 0 0", "row 0",
            "flood 0 0 0", "sizes", "smaller 1", "same () | ()", "exchange () | ()", "least () | ()", "one ()", "undoing ()", "needless ()",
            "do (remove low)", "do ", "do (", "one (", "same ( | )", "least  | ", "row 999999",
        ):
            self.assertEqual(run_script(line + "\nhouse 1 1\nhouse 0 1\nnow"), ["none", "ok", "refused", "0"], line)
        self.assertEqual(run_script("house 0 1\nnow\nhouse 25 1\nnow"), ["refused", "none", "refused", "none"])

    def test_values_that_cannot_be_read(self):
        for text in ("", " ", "(", ")", "()()", "A", "01", "-0", "1000000", "( )", "a b", "(a  b)", " ()", "() ", nested(13), "(flip))"):
            for word in ("do", "one", "undoing", "needless"):
                self.assertEqual(answer(f"{word} {text}"), "form", (word, text))
            for word in ("same", "exchange", "least"):
                self.assertEqual(answer(f"{word} {text} | ()"), "form", (word, text))
                self.assertEqual(answer(f"{word} () | {text}"), "form", (word, text))
                # Both are read ahead of all else.
                self.assertEqual(answer(f"{word} (odd) | {text}"), "form", (word, text))
                self.assertEqual(answer(f"{word} {text} | (odd)"), "form", (word, text))
        self.assertEqual(answer("do " + nested(12)), "refused")

    def test_several_bars(self):
        self.assertEqual(answer("same () | () | ()"), "form")
        self.assertEqual(answer("same  | () | ()"), "form")
        self.assertEqual(answer("same  | "), "form")
        self.assertEqual(answer("same () |  | ()"), "form")
        self.assertEqual(answer("same () | ()"), "yes")
        self.assertEqual(answer("one () | ()"), "form")

    def test_values_that_are_no_rows_of_deeds(self):
        for text in ("a", "_", "5", "(a)", "(())", "(5)", "(_)", "(odd)", "((odd))", "((flip 1))", "((move 1))", "((erase ((0 0)) 3))", "((flip) flip)",
                     "((fill () (0 0 0 0) plain))", "((erase 0 0))", "((stroke ((0 0)) (round) (0 0 0 0) plain 15))", "((flood (0) (0 0 0 0) plain 15 0))"):
            for word in ("one", "undoing", "needless"):
                self.assertEqual(answer(f"{word} {text}"), "refused", (word, text))
            for word in ("same", "exchange", "least"):
                self.assertEqual(answer(f"{word} {text} | ()"), "refused", (word, text))
                self.assertEqual(answer(f"{word} () | {text}"), "refused", (word, text))
                # Ahead of what the rows have in common.
                self.assertEqual(answer(f"least ((flip)) | {text}"), "refused", (word, text))


class AnswerTests(unittest.TestCase):
    def test_the_example(self):
        script = HOUSE + LOW + "row 0\nsame ((flip) (flip)) | ()\nleast ((flip)) | ()\nundo\npixel 0 0\ndo (remove low)\nodd"
        self.assertEqual(run_script("now\n" + script), ["none", "ok", "1", "f00f 0000", "yes", "0000 0001", "ok", "0000", "missing", "bad"])

    def test_houses(self):
        self.assertEqual(run_script(HOUSE + LOW + "house 3 2\nmany\nrow 1\nhouse 0 0\nmany\nhouse 24 24\nrow 23"), [
            "ok", "1", "ok", "1", "0000 0000 0000", "refused", "1", "ok", " ".join(["0000"] * 24),
        ])

    def test_changes(self):
        self.assertEqual(answer("do (paint low ((flip)))\nrow 0"), "0000 f00f")
        self.assertEqual(answer("do (remove none)"), "missing")
        self.assertEqual(answer("do (remove)"), "refused")
        self.assertEqual(answer("do (paint low ((turn)))"), "refused")
        self.assertEqual(answer("do (flatten low)\nmany"), "2")
        self.assertEqual(answer("do remove"), "refused")

    def test_too_large(self):
        script = HOUSE + LOW + "do (look low (1 plain 15 ()))\n" * 58
        self.assertEqual(run_script(script + "many\ndo (look low (1 plain 15 ()))\nmany\ndo (look none (1 plain 15 ()))\nnow")[-5:], ["60", "large", "60", "missing", "59"])
        tones = "(tone {} (1 plain 15 ()) (" + " ".join(["(" + " ".join(map(str, range(16))) + ")"] * 4) + "))"
        many = " ".join(tones.format(NAMES[k]) for k in range(23))
        script = HOUSE + f"do (layer _ (group all (1 plain 15 ()) ({many})))\n"
        self.assertEqual(run_script(script + LOW + "do (remove aa)\n" + LOW + "many")[-4:], ["large", "2", "3", "4"])
        self.assertEqual(answer("undoing (" + " ".join(["(turn)"] * 14) + ")", "house 2 2\n"), "large")

    def test_undo_redo_and_go(self):
        script = HOUSE + LOW + "do (remove low)\nundo\nundo\nundo\nredo\nredo\nredo\nnow\ngo 0\ngo 2\ngo 3\ngo 1\nnow\nmany"
        self.assertEqual(run_script(script)[3:], ["ok", "ok", "missing", "ok", "ok", "missing", "2", "2 0", "0 2", "missing", "1 0", "1", "3"])

    def test_marks(self):
        script = HOUSE + "marks\nmark b\n" + LOW + "mark a\nmarks\nmark b\nmarks\nunmark a\nunmark a\nmarks\nmark ninesigns\nunmark ninesigns"
        self.assertEqual(run_script(script)[1:], ["-", "ok", "1", "ok", "a=1 b=0", "ok", "a=1 b=1", "ok", "missing", "b=1", "refused", "missing"])

    def test_layers_and_from(self):
        self.assertEqual(answer("layers"), "low")
        self.assertEqual(answer("layers", HOUSE), "-")
        self.assertEqual(answer("do (group low all)\nlayers"), "all low")
        self.assertEqual(answer("from 1"), "0 (layer _ (paint low (1 plain 15 ()) (((15 0 0 15) (0 0 0 0)))))")
        self.assertEqual(answer("from 0"), "-1 ()")
        self.assertEqual(answer("from 2"), "missing")
        self.assertEqual(answer("from 999999"), "missing")

    def test_differ(self):
        self.assertEqual([answer(f"differ {k}") for k in (0, 1, 2)], ["1", "0", "missing"])
        self.assertEqual(answer("do (paint low ((flip)))\ndiffer 1"), "2")

    def test_hidden(self):
        self.assertEqual(answer("hidden low"), "-")
        self.assertEqual(answer("do (look low (0 plain 15 ()))\nhidden low"), "0.0 1.0")
        self.assertEqual(answer("do (look low (1 plain 15 ((0 15))))\nhidden low"), "0.0")
        self.assertEqual(answer("hidden none"), "refused")
        self.assertEqual(answer("do (group low all)\nhidden all"), "refused")
        self.assertEqual(answer("hidden ninesigns"), "refused")

    def test_pixels_and_rows(self):
        self.assertEqual([answer(f"pixel {x} {y}") for x, y in ((0, 0), (1, 0), (2, 0), (0, 1), (999999, 999999))], ["f00f"] + ["0000"] * 4)
        self.assertEqual([answer(f"row {y}") for y in (0, 1, 2, 999999)], ["f00f 0000"] + ["refused"] * 3)

    def test_flood(self):
        self.assertEqual([answer(f"flood {x} {y} {t}") for x, y, t in ((0, 0, 0), (1, 0, 14), (0, 0, 15))], ["((0 0 0))", "((0 1 1))", "((0 0 1))"])
        for line in ("flood 2 0 0", "flood 0 1 0", "flood 0 0 16", "flood 999999 0 0", "flood 0 0 999999"):
            self.assertEqual(answer(line), "refused")

    def test_sizes_and_smaller(self):
        self.assertEqual(answer("sizes"), " ".join(map(str, formats.sizes_of((((15, 0, 0, 15), (0, 0, 0, 0)),)))))
        self.assertEqual([answer(f"smaller {n}") for n in (1, 2, 8)], ["f00f 0000", "f008", "f008"])
        self.assertEqual(answer("smaller 2", "house 3 3\n"), "0000 0000/0000 0000")
        for n in (0, 9, 999999):
            self.assertEqual(answer(f"smaller {n}"), "refused")

    def test_rows_of_deeds(self):
        self.assertEqual(answer("same ((flip)) | ((fall))"), "no")
        self.assertEqual(answer("same ((flip)) | ((turn))"), "refused")
        self.assertEqual(answer("exchange ((flip)) | ((fall))"), "yes")
        self.assertEqual(answer("exchange ((flip)) | ((erase ((0 0 0)) 3))"), "no")
        self.assertEqual(answer("exchange ((mean ((0 0 0)) 3)) | ()"), "refused")
        self.assertEqual(answer("least () | ()"), "missing")
        self.assertEqual(answer("least ((move 25 0)) | ()"), "refused")
        self.assertEqual(answer("least ((fall)) | ()", "house 2 2\n"), "0000 0000/0000 0001")
        self.assertEqual(answer("one ((flip) (fall) (flip))", "house 2 2\n"), "(fall)")
        self.assertEqual(answer("one ((flip) (erase ((0 0 0)) 3))"), "missing")
        self.assertEqual(answer("undoing ((turn) (flip))", "house 2 2\n"), "((flip) (turn) (turn) (turn))")
        self.assertEqual(answer("undoing ((move 1 0))"), "missing")
        self.assertEqual(answer("undoing ()"), "()")
        self.assertEqual(answer("needless ((flip) (flip))"), "-")
        self.assertEqual(answer("needless ((fall) (flip) (fall))"), "0 2")
        self.assertEqual(answer("needless ((flood (0 0) (0 0 0 0) plain 15 0))"), "refused")
        self.assertEqual(answer("needless (" + " ".join(["(flip)"] * 41) + ")"), "refused")

    def test_errors_change_nothing(self):
        script = HOUSE + LOW + "mark a\n"
        wrong = ("do (remove none)", "do (", "do x", "go 7", "redo", "unmark b", "mark ninesigns", "house 0 0", "row 7", "one a", "odd")
        after = "now\nmany\nmarks\nlayers\nrow 0\nfrom 1"
        wanted = run_script(script + after)[3:]
        self.assertEqual(run_script(script + "\n".join(wrong) + "\n" + after)[-6:], wanted)


def spaced(words):
    return " ".join(words) or "-"


def rows_text(picture):
    return "/".join(" ".join(map(texts.pixel_text, row)) for row in picture)


class PlainDesk:
    """[9.6] by the house and the functions themselves."""

    def __init__(self):
        self.house = None

    def answer(self, word, told):
        if word == "house":
            self.house = House(*told)
            return "ok"
        house, picture = self.house, self.house.seen()
        document = house.document(house.now())
        if word == "do":
            return str(house.change(told[0]))
        if word in ("undo", "redo", "mark", "unmark"):
            getattr(house, word)(*told)
            return "ok"
        if word in ("now", "many"):
            return str(getattr(house, word)())
        calls = {
            "go": lambda k: "{} {}".format(*house.go(k)), "marks": lambda: spaced([f"{m}={k}" for m, k in house.marked()]),
            "layers": lambda: spaced(layers.names_of(document)),
            "from": lambda k: f"{house.change_of(k)[0]} {values.value_text(house.change_of(k)[1])}",
            "differ": lambda k: str(len(pictures.differing(layers.seen(house.document(k)), picture))),
            "hidden": lambda m: spaced([f"{x}.{y}" for x, y in forall.hidden_points(document, (m,), m)]),
            "pixel": lambda x, y: texts.pixel_text(pictures.pixel_at(picture, (x, y))), "row": self.row,
            "flood": lambda x, y, t: values.value_text(flooding.flooded(picture, (x, y), t, 4)),
            "sizes": lambda: spaced(map(str, formats.sizes_of(picture))), "smaller": lambda n: rows_text(smaller.smaller(picture, n)),
            "same": lambda d, e: self.yes(forms.form_of(document[:2], d) == forms.form_of(document[:2], e)),
            "exchange": lambda d, e: self.yes(exchange.may_exchange(document[:2], d, e)),
            "least": lambda d, e: rows_text(forms.least_picture(document[:2], d, e)),
            "one": lambda d: values.value_text(exchange.one_deed(document[:2], d)),
            "undoing": lambda d: values.value_text(forgetting.undoing(document[:2], d)),
            "needless": lambda d: spaced(map(str, exchange.needless(document[:2], d))),
        }
        return calls[word](*told)

    def yes(self, answer):
        return "yes" if answer else "no"

    def row(self, y):
        picture = self.house.seen()
        if y >= len(picture):
            raise NotAllowed("no such row")
        return rows_text(picture[y:y + 1])

    def answer_or_error(self, word, told):
        try:
            return self.answer(word, told)
        except PaintError as error:
            return {BadForm: "form", NotAllowed: "refused", Missing: "missing", TooLarge: "large"}[type(error)]


class MirrorTests(unittest.TestCase):
    def line(self, maker, house):
        word = maker.one_of(WORDS + ("do",) * 12 + ("undo", "redo", "go"))
        sides = house.document(0)[:2]
        number = maker.number(0, max(3, house.many()))
        if word == "house":
            return word, (maker.number(1, 3), maker.number(1, 3)) if maker.number(0, 9) == 0 else (0, 1)
        if word in ("go", "from", "differ", "row", "smaller"):
            return word, (number if word != "row" else maker.number(0, 3),)
        if word in ("pixel", "flood"):
            return word, tuple(maker.number(0, 3) for _ in range(2 if word == "pixel" else 3))
        if word in ("mark", "unmark"):
            return word, (maker.one_of(("a", "b", "ninesigns")),)
        if word == "hidden":
            return word, (maker.one_of(tuple(layers.names_of(house.document(house.now()))) + ("none",)),)
        if word == "do":
            return word, (made_change(maker, house.document(house.now())),)
        if word in ("same", "exchange", "least", "one", "undoing", "needless"):
            rows = [maker.plain_row(*sides, maker.number(0, 2)) for _ in range(2 if word in ("same", "exchange", "least") else 1)]
            return word, tuple(rows if maker.number(0, 5) else [(GOOD["mean"],)] * len(rows))
        return word, ()

    def written(self, word, told):
        if word in ("same", "exchange", "least"):
            return f"{word} {values.value_text(told[0])} | {values.value_text(told[1])}"
        return " ".join([word] + [values.value_text(part) for part in told])

    def test_scripts_against_the_house_and_the_functions(self):
        seen = set()
        for seed in range(60):
            maker, plain = Maker(360 + seed), PlainDesk()
            lines, wanted = ["house 2 2"], [plain.answer("house", (2, 2))]
            while len(lines) < 60:
                word, told = self.line(maker, plain.house)
                line = self.written(word, told)
                if sum(map(len, lines)) + len(line) > 19000:
                    break
                lines.append(line)
                wanted.append(plain.answer_or_error(word, told))
                seen.add((word, wanted[-1] in ("refused", "missing", "large")))
            self.assertEqual(run_script("\n".join(lines)), wanted)
        for word in WORDS:
            self.assertIn((word, False), seen)


if __name__ == "__main__":
    unittest.main()
