"""Values of every kind that a parameter called thing may be."""


def nested(core, depth, kind):
    """The core inside so many lists or tuples."""
    for level in range(depth):
        core = kind([core])
    return core


HUGE = 10 ** 5000

ODD_THINGS = [
    0, 1, -1, HUGE, -HUGE, True, False, None,
    "", "new", "beside", "0", "(0, 1)", "-",
    [], [0], [0, 1], [[]], [()], [["new", 0]], [("new", 0)],
    [None], [True], ["new", 0],
    (None,), (True,), (False,), ("",), ("0",), ("new",), ("new", 0), ([],), ((),), ([0],), ((0,),),
    (-1,), (HUGE,), (-HUGE,), (0, None), (0, "1"), (0, [1]), (0, (1,)), (0, True), (0, False),
    nested(0, 16, tuple), nested(0, 16, list), nested((), 15, tuple), nested([], 15, list),
    nested(("new", 0), 15, tuple), nested(["new", 0], 15, list),
]
