"""A test case that makes each call in every style that the document allows."""

import copy
import inspect
import unittest


def lists_at(value, depth):
    """The value with lists in the place of tuples, at this depth alone, or at all depths for None."""
    if not isinstance(value, (tuple, list)):
        return value
    inner = None if depth is None else depth - 1
    made = [lists_at(own, inner) for own in value]
    return made if depth is None or depth == 0 else type(value)(made)


def styles_of(function, args):
    """The arguments in each style, as dicts by name; what is called thing stays as it is."""
    names = list(inspect.signature(function).parameters)
    assert len(names) == len(args), (function, args)
    for depth in (9, None, 0, 1, 2, 3, 4, 5):
        yield {name: own if name == "thing" else lists_at(own, depth) for name, own in zip(names, args)}


class StyledCase(unittest.TestCase):
    """told and raises make a call by position and by name, with lists for tuples at each depth."""

    def call(self, function, named, by_name):
        kept = repr(named)
        try:
            return function(**named) if by_name else function(*named.values())
        finally:
            self.assertEqual(repr(named), kept, "the arguments were changed")

    def told(self, expected, function, *args):
        """Checks that the call returns this, told alike in each style, and a new list each time."""
        for named in styles_of(function, args):
            first = self.call(function, named, False)
            again = self.call(function, named, True)
            # repr parts True from 1 and lists from tuples, as == does not.
            self.assertEqual(repr(first), repr(expected), (function.__name__, args))
            self.assertEqual(repr(again), repr(first))
            if isinstance(first, list):
                self.assertIsNot(first, again)
                first.append("spoilt")
                self.assertEqual(repr(self.call(function, named, False)), repr(expected))

    def raises(self, error, function, *args):
        """Checks that the call raises an error of this class that keeps these values, in each style."""
        for named in styles_of(function, args):
            for by_name in (False, True):
                with self.assertRaises(type(error), msg=(function.__name__, args)) as caught:
                    self.call(function, named, by_name)
                self.assertIs(type(caught.exception), type(error))
                self.assertEqual(repr(vars(caught.exception)), repr(vars(error)), (function.__name__, args))

    def things(self, good, bad, function, *ahead):
        """Checks that function, behind these arguments, is True for each of good, and False for each of bad."""
        for thing in good:
            kept = copy.deepcopy(thing)
            self.told(True, function, *ahead, thing)
            self.assertEqual(repr(thing), repr(kept))
        for thing in list(bad) + STRANGE:
            kept = copy.deepcopy(thing)
            self.told(False, function, *ahead, thing)
            self.assertEqual(repr(thing), repr(kept))


def nested(many):
    value = ()
    for _ in range(many):
        value = (value,)
    return value


# Values that are none of the things that the document names; () alone is left out, as it may be one.
STRANGE = [
    None, True, False, 0, 1, -1, 10 ** 30, "", "cut", "feel", "break", "quiet", [], [()], [[]], [1, 2],
    ((),), (None,), (True,), (0,), (-1,), ("",), ("cut", 0), ("feel",), ("break",), ([],), ((), ()),
    (0, 0), (1, 2, 3), (0, ()), (0, []), (None, None), ("quiet", None), ("back", "back"), (0,) * 4, (0,) * 5,
    ((),) * 4, ((),) * 5, (((),) * 5,) * 4, (None,) * 9, ((),) * 9, nested(11), [nested(10)],
    (("feel", 0),), (0, ("feel", 0)), (("cut",), ("cut",)), tuple(range(50)), "x" * 300, ("more", "0"),
    ("off", ()), ("harm", ("break",)), ("part", None), ("part", True), ("more", [0]), (("a", "b"), ("c", "d")),
]
