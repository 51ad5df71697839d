"""A desk: a house that is told lines of words, and answers with a text (DOC.md, stage 8)."""

from doorhouse.errors import NoWords
from doorhouse.house import House
from doorhouse.requests import MOST_VALUES, WAIT, WORK
from doorhouse.routes import POST, is_path
from doorhouse.values import is_name, is_text_value, is_word, is_written_number

# What stands behind each first word; behind those of a post there may be values.
SHAPES = {
    "come": (),
    "login": ("N", "NAME", "WORD"),
    "logout": ("N",),
    "get": ("N", "PATH"),
    "post": ("N", "PATH", "N"),
    "wait": ("N",),
    "work": ("N",),
    "undo": (),
    "now": (),
    "things": (),
    "version": (),
    "open": (),
}
REQUESTS = ("come", "login", "logout", "get", "post")


def read_word(shape, word):
    """Tell what a word of this shape means, None where it isn't of this shape."""
    if shape == "N":
        return int(word) if is_written_number(word) else None
    if shape == "NAME":
        return word if is_name(word) else None
    if shape == "WORD":
        return word if is_word(word) else None
    return word if is_path(word) else None


def read_value(word):
    """Tell the value that is written so, None where it is none."""
    if is_written_number(word):
        return int(word)
    quoted = word[1:-1]
    # So a single quote sign is none, and neither is one with others within.
    if word != f'"{quoted}"' or '"' in quoted or not is_text_value(quoted):
        return None
    return quoted


def read_values(words):
    """Tell the dict of the values that are written so, None where one is wrong, there twice, or too many."""
    values = {}
    for word in words:
        name, sign, written = word.partition("=")
        value = read_value(written)
        if not is_name(name) or name in values or value is None:
            return None
        values[name] = value
    return values if len(values) <= MOST_VALUES else None


def read_line(line):
    """Tell the tuple of what the words of a line mean, the first one as it is; None of what is no line."""
    if not isinstance(line, str):
        return None
    first, *words = line.split(" ")
    if first not in SHAPES:
        return None
    shapes = SHAPES[first]
    meant = [first] + [read_word(shape, word) for shape, word in zip(shapes, words)]
    rest = words[len(shapes):]
    if first == POST:
        meant.append(read_values(rest))
    elif rest:
        return None
    return None if len(words) < len(shapes) or None in meant else tuple(meant)


def shown(reply):
    """Tell an answer of the house as a text."""
    code, text, number = reply
    words = [str(code)]
    if text != "":
        words.append(text)
    if number != 0:
        words.append(str(number))
    return " ".join(words)


class Desk:
    """A desk with a house of its own."""

    def __init__(self, site, *, keep=0, idle=50):
        self.house = House(site, keep=keep, idle=idle)

    def say(self, line):
        """Answer a line."""
        meant = read_line(line)
        if meant is None:
            raise NoWords("this is no line of the desk")
        if meant[0] in REQUESTS:
            return shown(self.house.ask(meant))
        if meant[0] == WAIT:
            self.house.wait(meant[1])
            return str(meant[1])
        if meant[0] == WORK:
            return str(self.house.work(meant[1]))
        if meant[0] == "undo":
            self.house.undo()
            return "ok"
        return self.told(meant[0])

    def told(self, word):
        """Answer a line that asks how the house is."""
        if word == "now":
            return str(self.house.now())
        if word == "things":
            return str(len(self.house.store()))
        if word == "version":
            return str(self.house.store().version())
        numbers = [str(number) for number, name in self.house.sessions()]
        return " ".join(numbers) if numbers else "none"
