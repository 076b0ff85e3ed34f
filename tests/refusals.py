"""How a test looks at a refusal."""

import copy

from roundcuts.errors import CutError


def refused(test, refusal, ask, *asked):
    """It is refused with just this and nothing else, and what was handed in is as it was."""
    before = copy.deepcopy(asked)
    with test.assertRaises(CutError, msg=(ask, asked)) as caught:
        ask(*asked)
    test.assertIs(caught.exception.__class__, refusal, (ask, asked))
    test.assertEqual(asked, before)
