"""Fields and places as texts."""

from roundcuts.errors import NoText
from roundcuts.fields import is_field, need_field


def field_text(field):
    need_field(field)
    return rows_text(field)


def rows_text(rows):
    return " ; ".join([" ".join([str(number) for number in row]) for row in rows])


def places_text(places):
    if not places:
        return "none"
    return " ".join([f"{fraction_text(x)},{fraction_text(y)}" for x, y in places])


def fraction_text(fraction):
    top, bottom = fraction
    return str(top) if bottom == 1 else f"{top}/{bottom}"


def read_field(text):
    if not isinstance(text, str):
        raise NoText("this is no text")
    rows = [read_row(words) for words in text.split(" ; ")]
    field = tuple(rows)
    # A number can be spelled in several ways, such as 0 and -0, of which just one is how it is written.
    if not is_field(field) or rows_text(field) != text:
        raise NoText("no field is written like this")
    return field


def read_row(words):
    return tuple([read_number(word) for word in words.split(" ")])


def read_number(word):
    figures = word[1:] if word.startswith("-") else word
    # No number of a field has more than four figures.
    if not 1 <= len(figures) <= 4 or any([sign not in "0123456789" for sign in figures]):
        raise NoText("no number of a field is written like this")
    return int(word)
