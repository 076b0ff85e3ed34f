"""What is no field, by one fault each, and the refusal of it."""

from plain import BOX, TRIANGLE
from things import nested, odd_things

from roundcuts.errors import CutError, NoField


def no_fields():
    return odd_things() + [
        0, 1, -1, 10 ** 30, BOX[:2], BOX[:3], BOX * 2 + BOX[:1], list(BOX), dict(enumerate(BOX)), set(BOX), str(BOX),
        tuple(list(row) for row in BOX), BOX[:3] + ([0, -1, 0],), BOX[:3] + (None,), BOX[:3] + ("0 -1 0",),
        BOX[:3] + ((0, -1),), BOX[:3] + ((0, -1, 0, 0),), BOX + ((0, 0, 1),), BOX + ((True, 0, 5),),
        BOX + ((1, False, 5),), BOX + ((1, 1, True),), BOX + ((31, 0, 900),), BOX + ((0, -31, 900),),
        BOX + ((1, 0, 1001),), BOX + ((1, 0, -1001),), ((1, 0, 13),) + BOX[1:], (BOX,), (BOX, BOX, BOX),
        BOX[:3] + ((0, (-1, 1), 0),), BOX[:3] + (nested((0, -1, 0), 18),), (TRIANGLE, None),
        nested(BOX, 17), nested(list(BOX), 17), (nested(1, 18),) * 3, [nested((1, 2, 3), 18)] * 4,
    ]


def refuses_what_is_no_field(test, ask):
    """Each thing that is no field is refused with NoField and with nothing else."""
    for thing in no_fields():
        with test.assertRaises(CutError, msg=thing) as caught:
            ask(thing)
        test.assertIs(caught.exception.__class__, NoField, thing)
