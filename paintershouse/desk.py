"""The desk: scripts, whose lines are answered one after another."""

from paintershouse.deeds import is_built_row
from paintershouse.errors import BadForm, Missing, NotAllowed, TooLarge
from paintershouse.exchange import may_exchange, needless, one_deed
from paintershouse.flooding import flooded
from paintershouse.forall import hidden_points
from paintershouse.forgetting import undoing
from paintershouse.formats import sizes_of
from paintershouse.forms import form_of, least_picture
from paintershouse.house import House
from paintershouse.layers import names_of, seen
from paintershouse.pictures import differing, pixel_at
from paintershouse.smaller import smaller
from paintershouse.texts import pixel_text, row_text
from paintershouse.values import is_word, read_number, read_value, value_text

MAX_SCRIPT = 20000
MAX_LINES = 100
MAX_DIGITS = 6

# How many numbers stand behind the word of a line.
NUMBERS = {
    "house": 2, "undo": 0, "redo": 0, "go": 1, "now": 0, "many": 0, "marks": 0, "layers": 0, "from": 1, "differ": 1,
    "pixel": 2, "row": 1, "flood": 3, "sizes": 0, "smaller": 1,
}
# The words behind which a name, a value, or two values with a bar between stand.
NAMED = ("mark", "unmark", "hidden")
VALUED = ("do", "one", "undoing", "needless")
PAIRED = ("same", "exchange", "least")


def run_script(script):
    """Returns the list of the answers to the lines of a script."""
    lines = script.split("\n")
    if len(script) > MAX_SCRIPT or len(lines) > MAX_LINES:
        raise NotAllowed("too long a script")
    desk = Desk()
    return [desk.answer(line) for line in lines]


def _told_behind(word, space, more):
    """Returns the list of what a line tells behind its word, or None if it does not have the form of this word."""
    if word in NUMBERS:
        numbers = [read_number(part, MAX_DIGITS) for part in more.split(" ")] if space else []
        return numbers if len(numbers) == NUMBERS[word] and -1 not in numbers else None
    if not space:
        return None
    if word in NAMED:
        return [more] if is_word(more) else None
    if word in VALUED:
        return [more]
    if word in PAIRED:
        first, bar, second = more.partition(" | ")
        return [first, second] if bar else None
    return None


class Desk:
    """Answers lines, with the house that they are about."""

    def __init__(self):
        # There is none ahead of the first line that makes one.
        self.house = None

    def answer(self, line):
        """Returns the answer to a line."""
        if line == "":
            return ""
        word, space, more = line.partition(" ")
        told = _told_behind(word, space, more)
        if told is None:
            return "bad"
        if self.house is None and word != "house":
            return "none"
        try:
            return self._done(word, told)
        except BadForm:
            return "form"
        except NotAllowed:
            return "refused"
        except Missing:
            return "missing"
        except TooLarge:
            return "large"

    def _done(self, word, told):
        """Does what a line tells, and returns the answer, or raises an error."""
        if word == "house":
            self.house = House(told[0], told[1])
            return "ok"
        if word in ANSWERS:
            answer = ANSWERS[word]
            return answer(self.house, *told)
        values = [read_value(text) for text in told]
        if word == "do":
            return str(self.house.change(values[0]))
        _check_rows(values)
        sides, answer = self.house.document(0)[:2], ANSWERS_FOR_ROWS[word]
        return answer(sides, *values)


def _check_rows(rows):
    """Raises NotAllowed if a value is not built like a row of deeds."""
    for deeds in rows:
        if not is_built_row(deeds):
            raise NotAllowed("not built like a row of deeds")


def _spaced(words):
    """Returns words with single spaces between, or a dash if there are none."""
    return " ".join(words) if words else "-"


def _rows_text(picture):
    return "/".join([row_text(row) for row in picture])


def _yes_or_no(answer):
    return "yes" if answer else "no"


def _undo(house):
    house.undo()
    return "ok"


def _redo(house):
    house.redo()
    return "ok"


def _mark(house, name):
    house.mark(name)
    return "ok"


def _unmark(house, name):
    house.unmark(name)
    return "ok"


def _go(house, number):
    back, again = house.go(number)
    return f"{back} {again}"


def _now(house):
    return str(house.now())


def _many(house):
    return str(house.many())


def _marks(house):
    return _spaced([f"{name}={number}" for name, number in house.marked()])


def _layers(house):
    return _spaced(names_of(house.document(house.now())))


def _came_from(house, number):
    origin, change = house.change_of(number)
    return f"{origin} {value_text(change)}"


def _differ(house, number):
    return str(len(differing(seen(house.document(number)), house.seen())))


def _hidden(house, name):
    return _spaced([f"{x}.{y}" for x, y in hidden_points(house.document(house.now()), (name,), name)])


def _pixel(house, x, y):
    return pixel_text(pixel_at(house.seen(), (x, y)))


def _row(house, y):
    picture = house.seen()
    if y >= len(picture):
        raise NotAllowed("no such row")
    return row_text(picture[y])


def _flood(house, x, y, tolerance):
    return value_text(flooded(house.seen(), (x, y), tolerance, 4))


def _sizes(house):
    return _spaced([str(size) for size in sizes_of(house.seen())])


def _smaller(house, n):
    return _rows_text(smaller(house.seen(), n))


ANSWERS = {
    "undo": _undo, "redo": _redo, "mark": _mark, "unmark": _unmark, "go": _go, "now": _now, "many": _many,
    "marks": _marks, "layers": _layers, "from": _came_from, "differ": _differ, "hidden": _hidden, "pixel": _pixel,
    "row": _row, "flood": _flood, "sizes": _sizes, "smaller": _smaller,
}


def _same(sides, first, second):
    return _yes_or_no(form_of(sides, first) == form_of(sides, second))


def _exchange(sides, first, second):
    return _yes_or_no(may_exchange(sides, first, second))


def _least(sides, first, second):
    return _rows_text(least_picture(sides, first, second))


def _one(sides, deeds):
    return value_text(one_deed(sides, deeds))


def _undoing(sides, deeds):
    return value_text(undoing(sides, deeds))


def _needless(sides, deeds):
    return _spaced([str(k) for k in needless(sides, deeds)])


ANSWERS_FOR_ROWS = {
    "same": _same, "exchange": _exchange, "least": _least, "one": _one, "undoing": _undoing, "needless": _needless,
}
