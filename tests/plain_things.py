"""Plain things for the tests: odd ones, and right ones spoilt in one spot."""

import copy

ODD_THINGS = [
    None, True, False, 0, 1, -1, 2, 10 ** 39, -(10 ** 39), "", "a", "shapes", "()", "(1, 2)", "1/2",
    [], [()], [[]], ((),), ([],), (None,), (True,), (False,), ("",), ("shapes",), ["shapes", []],
    [1, 1], [1, 2], [(1,), (1, 1)], [((1,), (1, 1))], (None, None), (True, True), ("1", "2"), ("1", 1),
    (1, 2, 3, "4"), ([1], 1), (1, [1]), ((1,), 1), (1, (1,)), ((((),),),),
]


def nested(depth):
    """Tuples within one another, so deep."""
    thing = ()
    for level in range(depth):
        thing = (thing,)
    return thing


def spoilt(thing):
    """Things near this one that are wrong wherever it is right: other kinds in one spot, at any depth."""
    told = [None]
    if isinstance(thing, bool) or thing is None:
        return told
    if isinstance(thing, int):
        told += [str(thing), (thing,), [thing]]
        if thing in (0, 1):
            told.append(bool(thing))
    elif isinstance(thing, str):
        told += [thing + " ", thing.upper() + "x", list(thing), (thing,), 1]
    elif isinstance(thing, tuple):
        told += [list(thing), str(thing), True]
        for at, item in enumerate(thing):
            told += [thing[:at] + (other,) + thing[at + 1:] for other in spoilt(item)]
    return told


def look(test, ask, right, wrong):
    """Each right thing is told True, each wrong, odd or spoilt one False; none is changed."""
    for wanted, things in ((True, right), (False, wrong)):
        for thing in things:
            kept, written = copy.deepcopy(thing), repr(thing)
            test.assertIs(ask(thing), wanted, written)
            test.assertEqual((thing, repr(thing)), (kept, written))
    for thing in right:
        for other in spoilt(thing):
            written = repr(other)
            test.assertIs(ask(other), False, written)
            test.assertEqual(repr(other), written)


def same(test, told, wanted):
    """Alike to the kinds within: a list is no tuple, True is no 1."""
    test.assertEqual(repr(told), repr(wanted))
