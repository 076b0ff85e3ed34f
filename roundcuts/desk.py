"""A desk on which a field is laid and cut round by round, told by lines of text."""

from roundcuts.behind import corners_behind
from roundcuts.corners import is_broken
from roundcuts.errors import NoDeed, NoField, NoLine, NoText
from roundcuts.texts import field_text, places_text, read_field


class Desk:
    """A field, none at first, and how many rounds of it were gone."""

    def __init__(self):
        # For each deed that stands, in order, what it led to: the field and how many rounds were gone. So a deed that
        # is undone leaves no trace.
        self.states = []

    def say(self, line):
        if not isinstance(line, str):
            raise NoLine("this is no text")
        if line == "back":
            return self.undo()
        if line == "round":
            field, gone = self.state()
            return self.stand(field, gone + 1)
        if line in ANSWERS:
            field, gone = self.state()
            answer = ANSWERS[line]
            return answer(field, gone)
        return self.stand(field_in(line), 0)

    def state(self):
        if not self.states:
            raise NoField("no field is laid")
        return self.states[-1]

    def stand(self, field, gone):
        self.states.append((field, gone))
        return "ok"

    def undo(self):
        if not self.states:
            raise NoDeed("no deed stands")
        self.states.pop()
        return "ok"


def field_in(line):
    """The field in a line that lays it."""
    if not line.startswith("field "):
        raise NoLine("a desk knows no such line")
    try:
        return read_field(line[6:])
    except NoText:
        raise NoLine("no field stands in the line") from None


def corners_told(field, gone):
    return places_text(corners_behind(field, gone))


def broken_told(field, gone):
    return places_text([place for place in corners_behind(field, gone) if is_broken(place)])


def gone_told(field, gone):
    return str(gone)


def shown_told(field, gone):
    return field_text(field)


ANSWERS = {"corners": corners_told, "broken": broken_told, "gone": gone_told, "shown": shown_told}
