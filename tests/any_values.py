"""Values for the arguments that may be any value."""


def nested(depth):
    """Return a value of lists, tuples and dicts that is nested so deep."""
    value = 0
    for level in range(depth):
        value = ([value], (value,), {"a": value})[level % 3]
    return value


def not_integers():
    """Return new values, none of which is an integer."""
    return [
        True, False, None, "", "0", "1", "12", (), (0,), (1, 2), [], [0], [12], {}, {0: 1},
        {"count": 12}, ((0, 1), (1, 0)), [[0], (1, [None])], nested(20),
    ]


def any_values():
    """Return new values of every kind, integers among them."""
    return [0, 1, 2, 3, -1, -2, 59, 60, 61, 12, 10 ** 40 - 1, 10 ** 40, -(10 ** 41)] + not_integers() + [
        "a", "dead -", "cluster 4 3 1 12", (0, 1), (1, 0), [(0, 1)], {(): 1}, {((), 0): 1}, (None,), ((),),
        ((0, 1), (1,), [0]), (True, False), ("0", "1"), [[], {}], {"a": {"b": (1, [2])}}, nested(19),
    ]
