import random
import unittest

from plain import (
    BOX, BROKEN_STRETCH, DEEP_FIELDS, FIELDS, HALF_BOX, LONG_SPIKE, NO_PLACE, SLANT_SQUARE, SPIKE, TALL_SPIKE, TRIANGLE,
    some_fields,
)
from refusals import refused
from things import nested, odd_things

from roundcuts.behind import all_rounds, hull
from roundcuts.desk import Desk
from roundcuts.errors import CutError, NoDeed, NoField, NoLine
from roundcuts.texts import field_text, places_text

QUESTIONS = ("corners", "broken", "gone", "shown")
NO_LINES = [
    "", " ", "field", "field ", "fields", "Field " + field_text(BOX), "field" + field_text(BOX), field_text(BOX),
    "field  " + field_text(BOX), " field " + field_text(BOX), "field " + field_text(BOX) + " ", "field\t" + field_text(BOX),
    "field " + field_text(BOX) + "\n", "field 1 0 1 ; -1 0 0", "field 1 0 4 ; -1 0 0 ; 0 1 3 ; 0 -1 -0", "field none",
    "field 1 0 13 ; -1 0 0 ; 0 1 3 ; 0 -1 0", "field field " + field_text(BOX), "field " + field_text(BOX).replace(" ; ", ";"),
    "field +1 0 4 ; -1 0 0 ; 0 1 3 ; 0 -1 0", "field True 0 4 ; -1 0 0 ; 0 1 3 ; 0 -1 0", "field" + "\u00a0" + field_text(BOX),
    "round ", " round", "Round", "ROUND", "rounds", "round 1", "round\n", "back ", " back", "Back", "back 1", "backs",
    "corners ", "corner", "Corners", " corners", "corners 1", "broken ", "Broken", "gone ", "gone 0", "Gone", "shown ",
    "Shown", "show", "shown\n", "ok", "none", "hull", "0", "say", "field round", "round round", "corners broken",
]


class DeskTest(unittest.TestCase):
    def refused(self, desk, refusal, line):
        refused(self, refusal, desk.say, line)

    def lay(self, field, rounds=0):
        desk = Desk()
        self.assertEqual(desk.say("field " + field_text(field)), "ok")
        for gone in range(rounds):
            self.assertEqual(desk.say("round"), "ok")
        return desk

    def answers(self, desk):
        told = []
        for line in QUESTIONS:
            try:
                told.append(desk.say(line))
            except CutError as refusal:
                told.append(refusal.__class__)
        return told


def wanted(field, gone):
    lists = all_rounds(field)
    left = lists[min(gone, len(lists) - 1)]
    broken = [place for place in left if place[0][1] != 1 or place[1][1] != 1]
    return [places_text(left), places_text(broken), str(gone), field_text(field)]


class Lines(DeskTest):
    def test_a_spike(self):
        desk = self.lay(LONG_SPIKE)
        self.assertEqual(desk.say("corners"), "0,0 1,0 1/2,10")
        self.assertEqual(desk.say("broken"), "1/2,10")
        self.assertEqual(desk.say("gone"), "0")
        self.assertEqual(desk.say("shown"), "-20 1 0 ; 20 1 20 ; 0 -1 0")
        self.assertEqual(desk.say("round"), "ok")
        self.assertEqual(desk.say("corners"), "0,0 1,0 1/2,19/2")
        self.assertEqual(desk.say("broken"), "1/2,19/2")
        self.assertEqual(desk.say("gone"), "1")
        self.assertEqual(desk.say("shown"), "-20 1 0 ; 20 1 20 ; 0 -1 0")
        self.assertEqual(desk.say("back"), "ok")
        self.assertEqual(desk.say("corners"), "0,0 1,0 1/2,10")
        self.assertEqual(desk.say("gone"), "0")

    def test_none(self):
        self.assertEqual(self.answers(self.lay(NO_PLACE)), ["none", "none", "0", field_text(NO_PLACE)])
        self.assertEqual(self.answers(self.lay(BROKEN_STRETCH, 1))[:3], ["none", "none", "1"])
        self.assertEqual(self.answers(self.lay(BOX))[:3], ["0,0 4,0 4,3 0,3", "none", "0"])

    def test_each_question_of_each_field(self):
        for field in list(FIELDS.values()) + list(DEEP_FIELDS.values()) + some_fields(20, 4, 81):
            for gone in (0, 1, 2, 5):
                self.assertEqual(self.answers(self.lay(field, gone)), wanted(field, gone), (field, gone))

    def test_many_rounds(self):
        for field in (TALL_SPIKE, LONG_SPIKE, SPIKE, SLANT_SQUARE, BOX):
            desk = self.lay(field, 45)
            self.assertEqual(self.answers(desk), [places_text(hull(field)), "none", "45", field_text(field)])
            for gone in range(300):
                desk.say("round")
            self.assertEqual(self.answers(desk), [places_text(hull(field)), "none", "345", field_text(field)])
            for gone in range(344):
                desk.say("back")
            self.assertEqual(self.answers(desk), wanted(field, 1))

    def test_a_field_laid_anew(self):
        desk = self.lay(LONG_SPIKE, 3)
        self.assertEqual(desk.say("field " + field_text(HALF_BOX)), "ok")
        self.assertEqual(self.answers(desk), wanted(HALF_BOX, 0))
        desk.say("round")
        self.assertEqual(self.answers(desk), wanted(HALF_BOX, 1))

    def test_the_same_field_laid_again(self):
        desk = self.lay(LONG_SPIKE, 3)
        desk.say("field " + field_text(LONG_SPIKE))
        self.assertEqual(self.answers(desk), wanted(LONG_SPIKE, 0))
        desk.say("back")
        self.assertEqual(self.answers(desk), wanted(LONG_SPIKE, 3))

    def test_name_of_the_argument(self):
        self.assertEqual(Desk().say(line="field " + field_text(BOX)), "ok")


class Back(DeskTest):
    def test_over_fields_and_rounds_to_the_very_start(self):
        desk = self.lay(LONG_SPIKE, 2)
        desk.say("field " + field_text(SPIKE))
        desk.say("round")
        desk.say("field " + field_text(TRIANGLE))
        for field, gone in ((SPIKE, 1), (SPIKE, 0), (LONG_SPIKE, 2), (LONG_SPIKE, 1), (LONG_SPIKE, 0)):
            self.assertEqual(desk.say("back"), "ok")
            self.assertEqual(self.answers(desk), wanted(field, gone))
        self.assertEqual(desk.say("back"), "ok")
        self.assertEqual(self.answers(desk), [NoField] * 4)
        for again in range(3):
            self.refused(desk, NoDeed, "back")
            self.refused(desk, NoField, "round")
        desk.say("field " + field_text(BOX))
        self.assertEqual(self.answers(desk), wanted(BOX, 0))

    def test_a_deed_undone_leaves_no_trace(self):
        desk = self.lay(LONG_SPIKE, 2)
        for line in ("round", "field " + field_text(BOX)):
            before = self.answers(desk)
            desk.say(line)
            self.assertNotEqual(self.answers(desk), before)
            desk.say("back")
            self.assertEqual(self.answers(desk), before)

    def test_questions_are_no_deeds(self):
        desk = self.lay(LONG_SPIKE)
        for line in QUESTIONS * 3:
            desk.say(line)
        desk.say("back")
        self.refused(desk, NoDeed, "back")

    def test_back_is_no_deed(self):
        desk = self.lay(LONG_SPIKE, 4)
        desk.say("back")
        desk.say("back")
        self.assertEqual(desk.say("gone"), "2")

    def test_at_the_start(self):
        self.refused(Desk(), NoDeed, "back")


class Refused(DeskTest):
    def test_ahead_of_a_field(self):
        desk = Desk()
        for line in QUESTIONS + ("round",):
            self.refused(desk, NoField, line)
        self.refused(desk, NoDeed, "back")
        desk.say("field " + field_text(BOX))
        self.assertEqual(self.answers(desk), wanted(BOX, 0))

    def test_no_lines(self):
        others = odd_things() + [0, 1, BOX, ["corners"], ("round",), {"field": BOX}, [field_text(BOX)], nested("back", 19)]
        others = [thing for thing in others if not isinstance(thing, str)]
        ahead, laid = Desk(), self.lay(LONG_SPIKE, 2)
        for line in NO_LINES + ["1", "abc", "1 2 3"] + others:
            self.refused(ahead, NoLine, line)
            self.refused(laid, NoLine, line)
        self.refused(ahead, NoDeed, "back")
        self.assertEqual(self.answers(laid), wanted(LONG_SPIKE, 2))
        for gone in (1, 0):
            laid.say("back")
            self.assertEqual(self.answers(laid), wanted(LONG_SPIKE, gone))

    def test_each_changes_nothing(self):
        desk = self.lay(SPIKE, 1)
        for line in NO_LINES:
            self.refused(desk, NoLine, line)
            self.assertEqual(desk.say("gone"), "1")
            self.assertEqual(desk.say("shown"), field_text(SPIKE))

    def test_what_is_refused_is_no_deed(self):
        desk = self.lay(SPIKE)
        self.refused(desk, NoLine, "field 1 0 1")
        desk.say("back")
        self.refused(desk, NoField, "round")
        self.refused(desk, NoDeed, "back")


class TwoDesks(DeskTest):
    def test_beside_one_another(self):
        one, other = Desk(), Desk()
        one.say("field " + field_text(LONG_SPIKE))
        self.assertEqual(self.answers(other), [NoField] * 4)
        other.say("field " + field_text(HALF_BOX))
        one.say("round")
        self.assertEqual(self.answers(one), wanted(LONG_SPIKE, 1))
        self.assertEqual(self.answers(other), wanted(HALF_BOX, 0))
        other.say("back")
        self.assertEqual(self.answers(one), wanted(LONG_SPIKE, 1))
        self.assertEqual(self.answers(other), [NoField] * 4)

    def test_it_hangs_on_the_deeds_that_stand_alone(self):
        chance = random.Random(82)
        fields = (SPIKE, LONG_SPIKE, HALF_BOX, SLANT_SQUARE, BOX, NO_PLACE)
        for again in range(12):
            desk, standing = Desk(), []
            for step in range(60):
                line = chance.choice(["round"] * 4 + ["back"] * 3 + ["field " + field_text(chance.choice(fields))]
                                     + ["wrong", "gone", None])
                try:
                    desk.say(line)
                except CutError:
                    continue
                if line == "back":
                    standing.pop()
                elif line != "gone":
                    standing.append(line)
            fresh = Desk()
            for line in standing:
                self.assertEqual(fresh.say(line), "ok")
            self.assertEqual(self.answers(desk), self.answers(fresh))
            for line in standing:
                self.assertEqual(desk.say("back"), "ok")
            self.refused(desk, NoDeed, "back")


if __name__ == "__main__":
    unittest.main()
