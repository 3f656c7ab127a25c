"""What the tests share."""

import copy
import unittest


class Other:
    """A thing of no kind that the program knows."""

    def __repr__(self):
        return "Other()"


# Things that are no list, no tuple, no string and no integer, or are one of these in the wrong place.
NO_SEQUENCES = (None, True, 7, "ab", "", {1: 2, 3: 4}, {1, 2}, range(2), b"ab", 1.5, Other())
NO_INTEGERS = (None, True, False, 1.0, "1", (1,), [1], b"1", 1j, Other())


class HeardCase(unittest.TestCase):
    """A test case that asks for errors with their attributes."""

    def assert_raises(self, error, attributes, function, *args, **named):
        """The call raises exactly this error; its attributes are these, in the order of its parameters."""
        with self.assertRaises(error) as caught:
            function(*args, **named)
        self.assertIs(type(caught.exception), error)
        told = vars(caught.exception)
        self.assertEqual(list(told.values()), list(attributes))
        for given, asked in zip(told.values(), attributes):
            self.assertIs(type(given), type(asked))

    def assert_tuples(self, thing):
        """The thing is plain data with tuples throughout."""
        self.assertNotIsInstance(thing, (list, set, dict))
        if isinstance(thing, tuple):
            for entry in thing:
                self.assert_tuples(entry)

    def assert_same(self, returned, expected):
        """Equal, of the same kinds at every depth, and with tuples throughout."""
        self.assertEqual(returned, expected)
        self.assertEqual(repr(returned), repr(expected))
        self.assert_tuples(returned)

    def assert_unchanged(self, function, *args):
        """The call changes nothing that it is passed, whatever it returns or raises."""
        before = copy.deepcopy(args)
        try:
            function(*args)
        except ValueError:
            pass
        self.assertEqual(repr(args), repr(before))


def as_lists(thing):
    """The thing with lists in place of tuples, at any depth."""
    if isinstance(thing, (tuple, list)):
        return [as_lists(entry) for entry in thing]
    return thing
