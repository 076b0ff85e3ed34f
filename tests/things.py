"""What "anything" may be: things of all kinds that may be handed in."""


def nested(inner, deep):
    """The thing inside so many lists, tuples and dicts, one around the other."""
    thing = inner
    for level in range(deep):
        thing = ([thing], (thing,), {"k": thing})[level % 3]
    return thing


def odd_things():
    """Things that are neither whole numbers, fractions nor rows."""
    return [
        None, True, False, "", "1", "1 2 3", "abc",
        [], [1, 2, 3], [1, 2], [(1, 2, 3)],
        (), (1,), (1, 2, 3, 4), ((1, 2, 3),), ((1, 2), 3),
        {}, {1: 2, 3: 4, 5: 6}, {"a": 1, "b": 2, "c": 3}, {(1, 2, 3): None},
        (None, None, None), ("1", "2", "3"), ([1], [2], [3]), ((1,), (2,), (3,)), ({}, {}, {}),
        (1, 2, None), (None, 2, 3), (1, "2", 3), (1, 2, "3"), (1, 2, [3]), ([], 1, 2),
        ((1, 1), 2, 3), (1, (2, 1), 3), (1, 2, (3, 1)), ((1, 1), (2, 1), (3, 1)),
        nested(1, 20), nested((1, 2, 3), 19), nested([True], 19), nested({}, 19),
        (nested(1, 19), 2, 3), (1, nested("x", 19), 3), (1, 2, nested(None, 19)),
        [nested(1, 18)] * 3, (nested(1, 18),) * 3,
    ]
