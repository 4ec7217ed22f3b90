"""Houses: documents that came from one another by changes, and the images of houses."""

from paintershouse.deeds import done_all, is_built_row
from paintershouse.errors import BadForm, Missing, NotAllowed, PaintError, TooLarge
from paintershouse.layers import (
    add_above, flattened, grouped, is_built_layer, is_built_look, is_name, layer, look_of, over_all, remove, replace,
)
from paintershouse.pictures import blank, check_size
from paintershouse.values import read_nested, read_number, value_text

MAX_NODES = 60
MAX_IMAGE = 200000
# In so many tuples stands a level of a picture, if its layer is put into four groups.
IMAGE_NESTED = 13
# A deed may copy by greater numbers than a value tells that is read; Python tells none with more digits.
IMAGE_DIGITS = 4300

# What stands behind the word of each change.
CHANGES = {
    "layer": ("text", "layer"),
    "remove": ("text",),
    "flatten": ("text",),
    "look": ("text", "look"),
    "group": ("text", "text"),
    "paint": ("text", "row"),
}


def _is_built_change(value):
    """Tells whether a value is built like a change, whatever its parts tell."""
    if not isinstance(value, tuple) or not value or not isinstance(value[0], str) or value[0] not in CHANGES:
        return False
    wanted = CHANGES[value[0]]
    if len(value) != len(wanted) + 1:
        return False
    return all([_is_built_part(name, value[k + 1]) for k, name in enumerate(wanted)])


def _is_built_part(name, part):
    if name == "layer":
        return is_built_layer(part)
    if name == "look":
        return is_built_look(part)
    if name == "row":
        return is_built_row(part)
    return isinstance(part, str)


def _changed(document, change):
    """Returns the document that a change gives."""
    word, name = change[:2]
    if word == "layer":
        return add_above(document, name, change[2])
    if word == "remove":
        return remove(document, name)
    if word == "flatten":
        return flattened(document, name)
    if word == "look":
        return look_of(document, name, change[2])
    if word == "group":
        return grouped(document, name, change[2])
    return _painted(document, name, change[2])


def _painted(document, name, deeds):
    """Returns a document in which a row of deeds is done on the picture of a paint layer."""
    kind, _, look, content = layer(document, name)
    if kind != "paint":
        raise NotAllowed("only a paint layer can be painted")
    return replace(document, name, (kind, name, look, done_all(content, deeds)))


class House:
    """Documents that came from one another by changes; one of them is open."""

    def __init__(self, wide, high):
        check_size(wide, high)
        self.documents = [(wide, high, ())]
        # For each document the number from which it came, and the change.
        self.origins = [(-1, ())]
        # For each document from which others came, that one of them that was open last.
        self.ways = {}
        self.marks = {}
        self.at = 0

    def change(self, change):
        """Changes the open document, and returns the number of the new one."""
        if not _is_built_change(change):
            raise NotAllowed("not built like a change")
        document = _changed(self.documents[self.at], change)
        if len(self.documents) == MAX_NODES:
            raise TooLarge("too many documents")
        self.documents.append(document)
        self.origins.append((self.at, change))
        self.ways[self.at] = len(self.documents) - 1
        self.at = self.ways[self.at]
        return self.at

    def undo(self):
        """Opens the document from which the open one came."""
        if self.at == 0:
            raise Missing("nothing to be undone")
        self.at = self.origins[self.at][0]

    def redo(self):
        """Opens that one of those that came from the open document that was open last."""
        if self.at not in self.ways:
            raise Missing("nothing to be redone")
        self.at = self.ways[self.at]

    def go(self, number):
        """Opens a document, and returns how many changes were taken back, and made again."""
        self._check_number(number)
        start, path = self.path_to(self.at), self.path_to(number)
        both = 0
        while both < len(start) and both < len(path) and start[both] == path[both]:
            both += 1
        for k in range(1, len(path)):
            self.ways[path[k - 1]] = path[k]
        self.at = number
        return (len(start) - both, len(path) - both)

    def path_to(self, number):
        """Returns the list of the numbers of the documents on the way from 0 to one."""
        path = [number]
        while path[-1] > 0:
            path.append(self.origins[path[-1]][0])
        return path[::-1]

    def _check_number(self, number):
        if not 0 <= number < len(self.documents):
            raise Missing("no document with this number")

    def now(self):
        """Returns the number of the open document."""
        return self.at

    def many(self):
        """Returns the number of documents."""
        return len(self.documents)

    def document(self, number):
        """Returns the document with a number."""
        self._check_number(number)
        return self.documents[number]

    def change_of(self, number):
        """Returns the number from which a document came, and the change; -1 and the empty tuple for 0."""
        self._check_number(number)
        return self.origins[number]

    def seen(self):
        """Returns the plain picture of the open document."""
        wide, high, layers = self.documents[self.at]
        return over_all(blank(wide, high), layers)

    def mark(self, name):
        """Puts a mark at the open document."""
        if not is_name(name):
            raise NotAllowed("not the name of a mark")
        self.marks[name] = self.at

    def unmark(self, name):
        """Takes a mark away."""
        if name not in self.marks:
            raise Missing("no such mark")
        del self.marks[name]

    def marked(self):
        """Returns the list of the pairs of a mark and a number, by the marks."""
        return [(name, self.marks[name]) for name in sorted(self.marks)]

    def copy(self):
        """Returns an independent house like this one."""
        wide, high, _ = self.documents[0]
        other = House(wide, high)
        other.documents = list(self.documents)
        other.origins = list(self.origins)
        other.ways = dict(self.ways)
        other.marks = dict(self.marks)
        other.at = self.at
        return other

    def image(self):
        """Returns the image."""
        wide, high, _ = self.documents[0]
        lines = [f"house {wide} {high} {self.at}"]
        lines.extend([f"from {origin} {value_text(change)}" for origin, change in self.origins[1:]])
        lines.extend([f"way {number} {self.ways[number]}" for number in sorted(self.ways)])
        lines.extend([f"mark {name} {number}" for name, number in self.marked()])
        return "".join([line + "\n" for line in lines])


class ImageReader:
    """Reads the lines of an image, one after another."""

    def __init__(self):
        # There is none ahead of the first line.
        self.house = None
        # The number of the document that is to be open.
        self.wanted = 0
        # The documents of which a way has been told.
        self.ways_told = {}

    def takes(self, line):
        """Reads a line; returns True if it can stand there, otherwise False."""
        word, _, more = line.partition(" ")
        words = more.split(" ")
        if self.house is None:
            return word == "house" and self._takes_house(words)
        if word == "from":
            return not self.ways_told and not self.house.marks and self._takes_change(more)
        if word == "way":
            return self._takes_way(words)
        return word == "mark" and self._takes_mark(words)

    def _takes_house(self, words):
        numbers = _numbers(words)
        if len(numbers) != 3:
            return False
        try:
            self.house = House(numbers[0], numbers[1])
        except NotAllowed:
            return False
        self.wanted = numbers[2]
        return True

    def _takes_change(self, more):
        origin, _, text = more.partition(" ")
        try:
            self.house.go(read_number(origin, IMAGE_DIGITS))
            self.house.change(read_nested(text, IMAGE_NESTED, IMAGE_DIGITS))
        except PaintError:
            return False
        return True

    def _lacking(self):
        """Returns the list of the documents of which a way is still to be told, in order."""
        return [number for number in sorted(self.house.ways) if number not in self.ways_told]

    def _takes_way(self, words):
        numbers, lacking = _numbers(words), self._lacking()
        if len(numbers) != 2 or not lacking or numbers[0] != lacking[0]:
            return False
        start, end = numbers
        if not 0 < end < self.house.many() or self.house.change_of(end)[0] != start:
            return False
        if self._is_there() and start in self.house.path_to(self.wanted)[:-1]:
            if end not in self.house.path_to(self.wanted):
                return False
        self.ways_told[start] = True
        self.house.ways[start] = end
        return True

    def _takes_mark(self, words):
        if len(words) != 2 or self._lacking():
            return False
        name, number = words[0], read_number(words[1], IMAGE_DIGITS)
        if not is_name(name) or not 0 <= number < self.house.many():
            return False
        for other in self.house.marks:
            if other >= name:
                return False
        self.house.marks[name] = number
        return True

    def _is_there(self):
        """Tells whether there is a document with the number of the one that is to be open."""
        return self.wanted < self.house.many()

    def is_whole(self):
        """Tells whether all lines of an image have been read."""
        return self.house is not None and self._is_there() and not self._lacking()

    def loaded(self):
        """Returns the house, with the right document open."""
        house = self.house
        house.at = self.wanted
        return house


def _numbers(words):
    """Returns the list of the numbers that words tell, or the empty list if one tells none."""
    numbers = [read_number(word, IMAGE_DIGITS) for word in words]
    return numbers if min(numbers) >= 0 else []


def load_house(text):
    """Returns the house of an image."""
    if len(text) > MAX_IMAGE:
        raise BadForm(0)
    lines = text.split("\n")
    reader = ImageReader()
    for at, line in enumerate(lines[:-1]):
        if not reader.takes(line):
            raise BadForm(at + 1)
    if lines[-1] != "" or not reader.is_whole():
        raise BadForm(len(lines))
    return reader.loaded()
