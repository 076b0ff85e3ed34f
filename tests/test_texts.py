import re
import unittest
from fractions import Fraction

from no_fields import refuses_what_is_no_field
from plain import (
    BOX, DEEP_FIELDS, EIGHT, FIELDS, HALF_BOX, NO_PLACE, SPIKE, TRIANGLE, is_plain_field, place_of, plain_corners,
    some_fields,
)
from refusals import refused
from things import nested, odd_things

from roundcuts.behind import all_rounds, whole_places
from roundcuts.corners import broken, corners
from roundcuts.errors import NoText
from roundcuts.texts import field_text, places_text, read_field

NUMBER = "(0|-?[1-9][0-9]*)"
ROW = re.compile(f"{NUMBER} {NUMBER} {NUMBER}", re.ASCII)
TRIANGLE_TEXT = "-1 0 0 ; 0 -1 0 ; 1 1 5"


def fields():
    return list(FIELDS.values()) + list(DEEP_FIELDS.values()) + some_fields(40, 4, 71) + some_fields(20, 30, 72)


def plainly_read(text):
    """The field that is written so, by the words, or None."""
    found = [ROW.fullmatch(part) for part in text.split(" ; ")]
    if not all(found):
        return None
    rows = tuple(tuple(int(number) for number in match.groups()) for match in found)
    return rows if all(row[:2] != (0, 0) for row in rows) and is_plain_field(rows) else None


class FieldText(unittest.TestCase):
    def test_fields(self):
        self.assertEqual(field_text(TRIANGLE), TRIANGLE_TEXT)
        self.assertEqual(field_text(SPIKE), "-3 1 0 ; 3 1 6 ; 0 -2 -1")
        self.assertEqual(field_text(NO_PLACE), "1 0 -1 ; -1 0 -1 ; 0 1 5 ; 0 -1 5")
        self.assertEqual(field_text(BOX + ((-30, 30, -1000), (30, 0, 1000))),
                         "1 0 4 ; -1 0 0 ; 0 1 3 ; 0 -1 0 ; -30 30 -1000 ; 30 0 1000")

    def test_by_the_words(self):
        for field in fields():
            text = field_text(field)
            self.assertIs(text.__class__, str)
            self.assertEqual(plainly_read(text), field)

    def test_no_field(self):
        refuses_what_is_no_field(self, field_text)


class PlacesText(unittest.TestCase):
    def test_places(self):
        self.assertEqual(places_text([place_of(0, 0)]), "0,0")
        self.assertEqual(places_text([place_of(3, -2)]), "3,-2")
        self.assertEqual(places_text([place_of(Fraction(1, 2), 3)]), "1/2,3")
        self.assertEqual(places_text([place_of(Fraction(-1, 2), Fraction(-7, 3))]), "-1/2,-7/3")
        self.assertEqual(places_text([place_of(1, 2), place_of(Fraction(5, 4), -6), place_of(1, 2)]), "1,2 5/4,-6 1,2")
        self.assertEqual(places_text([place_of(-10 ** 29, Fraction(1, 10 ** 29))]), f"-{10 ** 29},1/{10 ** 29}")

    def test_none(self):
        self.assertEqual(places_text([]), "none")

    def test_of_fields(self):
        self.assertEqual(places_text(corners(TRIANGLE)), "0,0 5,0 0,5")
        self.assertEqual(places_text(corners(SPIKE)), "1/6,1/2 11/6,1/2 1,3")
        self.assertEqual(places_text(corners(HALF_BOX)), "-1/2,-3/2 3/2,-3/2 3/2,5/2 -1/2,5/2")
        self.assertEqual(places_text(corners(NO_PLACE)), "none")
        for field in fields():
            for told in [corners(field), broken(field), whole_places(field)] + all_rounds(field):
                words = [f"{Fraction(*x)},{Fraction(*y)}" for x, y in told]
                self.assertEqual(places_text(told), " ".join(words) or "none")

    def test_the_list_stays(self):
        told = corners(SPIKE)
        places_text(told)
        self.assertEqual(told, plain_corners(SPIKE))


class ReadField(unittest.TestCase):
    def read(self, text):
        wanted = plainly_read(text)
        if wanted is None:
            self.refused(text)
        else:
            told = read_field(text)
            self.assertEqual(told, wanted, text)
            self.assertTrue(all(number.__class__ is int for row in told for number in row))
            self.assertIs(told.__class__, tuple)

    def refused(self, thing):
        refused(self, NoText, read_field, thing)

    def test_what_was_written(self):
        for field in fields():
            self.assertEqual(read_field(field_text(field)), field)

    def test_each_sign_out_put_in_or_another(self):
        for text in (TRIANGLE_TEXT, "-3 1 0 ; 3 1 6 ; 0 -2 -1", "30 0 30 ; -1 0 0 ; 0 1 1 ; 0 -1 0 ; 1 1 1000"):
            for at in range(len(text) + 1):
                self.read(text[:at] + text[at + 1:])
                for sign in " ;-+0123456789/,.a_\t\n\u00a0\u2003\u0663\u00b2\u2212":
                    self.read(text[:at] + sign + text[at:])
                    self.read(text[:at] + sign + text[at + 1:])

    def test_a_word_or_a_row_out_or_twice(self):
        for text in (TRIANGLE_TEXT, field_text(EIGHT), field_text(BOX)):
            words, rows = text.split(" "), text.split(" ; ")
            for at in range(len(words)):
                self.read(" ".join(words[:at] + words[at + 1:]))
                self.read(" ".join(words[:at + 1] + words[at:]))
            for at in range(len(rows)):
                self.read(" ; ".join(rows[:at] + rows[at + 1:]))
                self.read(" ; ".join(rows[:at + 1] + rows[at:]))
            self.read(" ; ".join(rows[::-1]))

    def test_how_numbers_are_not_written(self):
        for word in ("-0", "+0", "00", "-00", "+1", "01", "-01", "1.", "1.0", "1/1", "0x1", "1e0", "1_0", "_1", "", "-",
                     "--1", "- 1", "\u0661", "\u00b9", "\uff11", "\u2070", "I", "one", "True", "None", "1,", "(1)", "1" * 31,
                     "9" * 1500, "-" + "0" * 900, "1" * 5000, " ", "\t1", "1\n"):
            for at in (0, 4, 10):
                words = TRIANGLE_TEXT.split(" ")
                words[at] = word
                self.refused(" ".join(words))

    def test_blanks(self):
        for text in (" " + TRIANGLE_TEXT, TRIANGLE_TEXT + " ", TRIANGLE_TEXT + "\n", "\n" + TRIANGLE_TEXT,
                     TRIANGLE_TEXT.replace(" ", "  "), TRIANGLE_TEXT.replace(" ", "\t"), TRIANGLE_TEXT.replace(" ; ", ";"),
                     TRIANGLE_TEXT.replace(" ; ", " ;"), TRIANGLE_TEXT.replace(" ; ", "; "), TRIANGLE_TEXT.replace(";", ","),
                     TRIANGLE_TEXT.replace(" ", "\u00a0"), TRIANGLE_TEXT.replace(" ; ", "  ;  "), TRIANGLE_TEXT + " ; ",
                     TRIANGLE_TEXT + " ;", " ; " + TRIANGLE_TEXT, "; " + TRIANGLE_TEXT, TRIANGLE_TEXT.replace(";", ";;"),
                     TRIANGLE_TEXT.replace(" ; ", " ; ; "), TRIANGLE_TEXT.replace(" ; ", "\n"), "", " ", ";", " ; ", "none",
                     "field " + TRIANGLE_TEXT, str(TRIANGLE), repr(TRIANGLE_TEXT), TRIANGLE_TEXT + "\x00"):
            self.refused(text)

    def test_rows_that_are_no_field(self):
        for text in ("1 0 1 ; -1 0 0", "1 0 1", "1 0 1 ; -1 0 0 ; 0 1 1", " ; ".join(["1 0 4 ; -1 0 0 ; 0 1 3 ; 0 -1 0"] * 3),
                     "0 0 1 ; -1 0 0 ; 0 -1 0 ; 1 1 5", "-1 0 0 ; 0 -1 0 ; 1 1 13", "-1 0 0 ; 0 -1 0 ; 1 1 5 ; 31 0 900",
                     "-1 0 0 ; 0 -1 0 ; 1 1 5 ; 1 0 1001", "-1 0 0 ; 0 -1 0 ; 1 1 5 ; 1 0 -1001", "-1 0 ; 0 -1 0 ; 1 1 5",
                     "-1 0 0 0 ; 0 -1 0 ; 1 1 5", "-1 0 0 0 -1 0 1 1 5"):
            self.assertIsNone(plainly_read(text))
            self.refused(text)

    def test_edges(self):
        for text in ("30 -30 1000 ; 1 0 4 ; -1 0 0 ; 0 1 3 ; 0 -1 0", "30 0 -1000 ; 1 0 4 ; -1 0 0 ; 0 1 3 ; 0 -1 0",
                     field_text(EIGHT), "-1 0 12 ; 0 -1 12 ; 1 0 12 ; 0 1 12"):
            self.assertEqual(field_text(read_field(text)), text)

    def test_other_things(self):
        for thing in odd_things() + [0, 1, -1, 10 ** 29, TRIANGLE, list(TRIANGLE), [TRIANGLE_TEXT], (TRIANGLE_TEXT,),
                                     {TRIANGLE_TEXT: TRIANGLE_TEXT}, TRIANGLE_TEXT.split(" "), nested(TRIANGLE_TEXT, 19)]:
            self.refused(thing)


class AskedAgain(unittest.TestCase):
    def test_names_of_the_arguments(self):
        self.assertEqual(field_text(field=TRIANGLE), TRIANGLE_TEXT)
        self.assertEqual(places_text(places=[]), "none")
        self.assertEqual(read_field(text=TRIANGLE_TEXT), TRIANGLE)


if __name__ == "__main__":
    unittest.main()
