"""Tales: deeds written as lines, and desks as the lines of their journals."""

from overhaul.desk import Desk
from overhaul.errors import NoTale, WaterError
from overhaul.moments import in_lowest_terms
from overhaul.names import good_name

FIGURES = "0123456789"
MOST_FIGURES = 12


def line_of(deed):
    """A deed as one line."""
    word = deed[0]
    if word == "go":
        top, bottom = deed[1]
        return f"go {top}/{bottom}"
    if word == "watch":
        return " ".join(["watch", deed[1]] + list(deed[2]))
    return " ".join([str(part) for part in deed])


def name_from(text):
    """The name or mark that a word of a line tells."""
    if not good_name(text):
        raise NoTale("no good name")
    return text


def number_from(text):
    """The whole number that a word of a line tells."""
    figures = text[1:] if text.startswith("-") else text
    # Python refuses very many figures, and takes signs among them that are no figures.
    if len(figures) < 1 or len(figures) > MOST_FIGURES or not all(sign in FIGURES for sign in figures):
        raise NoTale("no whole number of at most 12 figures")
    number = int(text)
    if str(number) != text:
        raise NoTale("a nought ahead of figures, or a minus ahead of nought")
    return number


def moment_from(text):
    """The moment that a word of a line tells."""
    parts = text.split("/")
    if len(parts) != 2:
        raise NoTale("a moment has one slash")
    moment = (number_from(parts[0]), number_from(parts[1]))
    if moment[0] < 0 or not in_lowest_terms(moment):
        raise NoTale("a moment below nought, or not in lowest terms")
    return moment


def deed_of(line):
    """The deed that a line tells, whether or not a lane would take it."""
    # A blank too many leaves an empty word, which is neither a name nor a number.
    words = line.split(" ")
    word, rest = words[0], words[1:]
    if word == "join" and len(rest) == 3:
        return ("join", name_from(rest[0]), number_from(rest[1]), number_from(rest[2]))
    if word == "leave" and len(rest) == 1:
        return ("leave", name_from(rest[0]))
    if word == "turn" and len(rest) == 2:
        return ("turn", name_from(rest[0]), number_from(rest[1]))
    if word == "about" and len(rest) == 0:
        return ("about",)
    if word == "go" and len(rest) == 1:
        return ("go", moment_from(rest[0]))
    if word == "watch" and len(rest) >= 1:
        return ("watch", name_from(rest[0]), tuple([name_from(text) for text in rest[1:]]))
    if word == "unwatch" and len(rest) == 1:
        return ("unwatch", name_from(rest[0]))
    raise NoTale("no deed's line")


def written(desk):
    """A desk as the lines of its journal."""
    return "\n".join([line_of(deed) for deed in desk.journal()])


def read_back(text):
    """The desk that a text tells."""
    desk = Desk()
    # A desk without deeds has no line, not an empty one.
    if text == "":
        return desk
    deeds = [deed_of(line) for line in text.split("\n")]
    try:
        desk.do_all(deeds)
    except WaterError as refusal:
        raise NoTale("a deed is refused where it stands") from refusal
    return desk
