"""A desk: it keeps a live row, is told rows of words and answers each by a text."""

from unlikerow.errors import NoCommand
from unlikerow.live import Live
from unlikerow.notes import are_figures, is_number, read_row, show_row
from unlikerow.parting import fewest
from unlikerow.somany import how_many
from unlikerow.widths import least_of, most_of

PLACE_FIGURES = 6

# What stands behind each first word: a count is a whole number from 0, some one from 1, a number any.
FORMS = {
    "unlike": ("count", "count"),
    "firsts": ("count", "count"),
    "change": ("count", "number"),
    "put": ("count", "number"),
    "take": ("count",),
    "undo": (),
    "show": (),
    "most": ("count",),
    "least": ("count",),
    "count": ("count",),
    "part": ("some",),
}


def fits(word, kind):
    if kind == "number":
        return is_number(word)
    return are_figures(word, PLACE_FIGURES) and (kind == "count" or word != "0")


def is_command(words):
    form = FORMS.get(words[0])
    if form is None or len(form) != len(words) - 1:
        return False
    return all([fits(word, kind) for word, kind in zip(words[1:], form)])


def answer_of_row(row, name, numbers):
    """Of the commands that ask the row as a whole."""
    if name == "show":
        return show_row(row)
    if name == "most":
        return show_row(most_of(row, numbers[0]))
    if name == "least":
        return show_row(least_of(row, numbers[0]))
    if name == "count":
        return str(how_many(row, numbers[0]))
    return show_row(fewest(row, numbers[0]))


def answer_of_live(live, name, numbers):
    if name == "unlike":
        return str(live.unlike(numbers[0], numbers[1]))
    if name == "firsts":
        return show_row(live.firsts(numbers[0], numbers[1]))
    if name == "change":
        live.change(numbers[0], numbers[1])
        return "ok"
    if name == "put":
        live.put(numbers[0], numbers[1])
        return "ok"
    if name == "take":
        return str(live.take(numbers[0]))
    if name == "undo":
        return "ok" if live.undo() else "none"
    return answer_of_row(live.row(), name, numbers)


class Desk:
    def __init__(self):
        self.live = Live([])

    def say(self, words):
        if not isinstance(words, str):
            raise NoCommand("this is no text")
        if words.startswith("row "):
            self.live = Live(read_row(words[4:]))
            return "ok"
        parts = words.split(" ")
        if not is_command(parts):
            raise NoCommand("these words are no command")
        return answer_of_live(self.live, parts[0], [int(part) for part in parts[1:]])
