"""The rows that a desk is told: their words, the names in them, and what follows."""

from callbinds.covers import Ahead, ByName, ByPlace, Exchange, Spare, Swallow, With, Without
from callbinds.errors import NoRow
from callbinds.names import is_name

# How many names stand behind the first word of each kind of row.
NAMES_AHEAD = {
    "form": 1, "make": 1, "show": 1, "fits": 1, "paper": 1, "mend": 1, "call": 1, "part": 2, "cover": 2, "room": 1,
    "same": 2, "stands": 2,
}
WITH_A_TEXT = ("form", "make", "fits", "paper", "mend", "call", "part")
# How many names stand behind the word of each cover.
NAMES_OF_COVERS = {
    "ahead": 0, "with": 1, "spare": 1, "without": 1, "exchange": 2, "swallow": 0, "byplace": 0, "byname": 0,
}
MOST_COVERS = 6


def read_row(row):
    """Read a row: a tuple of its first word, the names behind it, and what follows; or refuse it with NoRow."""
    if not isinstance(row, str):
        raise NoRow("a row is no text")
    words = row.split(" ")
    word = words[0]
    if word not in NAMES_AHEAD:
        raise NoRow("no row begins so")
    behind = 1 + NAMES_AHEAD[word]
    return (word, read_names(words[1:behind], NAMES_AHEAD[word]), read_what_follows(word, words[behind:]))


def read_names(words, count):
    """Read so many names."""
    if len(words) < count:
        raise NoRow("a name lacks")
    for word in words:
        if not is_name(word):
            raise NoRow("what stands for a name is none")
    return words


def read_what_follows(word, words):
    """Read what follows the first names: a text, covers, further names, or None where nothing may follow."""
    if word in WITH_A_TEXT:
        if not words:
            raise NoRow("the blank ahead of the text lacks")
        return " ".join(words)
    if word == "cover":
        return read_covers(words)
    if word == "room":
        return read_unlike_names(words)
    if words:
        raise NoRow("a row has too many words")
    return None


def read_unlike_names(words):
    """Read names of which no two are alike."""
    names = read_names(words, 0)
    if len(set(names)) < len(names):
        raise NoRow("a name comes twice")
    return names


def read_covers(words):
    """Read covers, at least one."""
    covers = []
    at = 0
    while at < len(words):
        word = words[at]
        if word not in NAMES_OF_COVERS:
            raise NoRow("there is no such cover")
        behind = at + 1 + NAMES_OF_COVERS[word]
        covers.append(cover_of(word, read_names(words[at + 1:behind], NAMES_OF_COVERS[word])))
        at = behind
    if not 1 <= len(covers) <= MOST_COVERS:
        raise NoRow("there are no covers, or too many")
    return covers


def cover_of(word, names):
    """Tell the cover of a word and of its names; the things that it puts in are 0."""
    if word == "ahead":
        return Ahead(0)
    if word == "with":
        return With(names[0], 0)
    if word == "spare":
        return Spare(names[0], 0)
    if word == "without":
        return Without(names[0])
    if word == "exchange":
        return Exchange(names[0], names[1])
    if word == "swallow":
        return Swallow()
    if word == "byplace":
        return ByPlace()
    return ByName()
