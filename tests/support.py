"""What several tests share."""

import unittest

# Values of every kind that an invalid argument can be built from. None of them is an
# integer, a ratio, a row other than (), a mix or a table.
STRANGE = (
    None, True, False, "", "a", "joined ", "(1, 2)", "\n", "x" * 3000, [], [1], [2, 1], [[1]], {1: 2}, {"a": []},
    (None,), (True,), (1, True), (True, 1), ("1",), ((1,), [2]), ([1],), (0,), (-1,), (1, 0), (1, -1), (0, 2),
    ((((((((1,),),),),),),),), {(): {(): {}}},
)
LONG = 10 ** 59  # sixty digits
LONGER = 10 ** 60  # sixty-one digits
LONGEST = 10 ** 99  # a hundred digits
NO_INTEGERS = STRANGE + ((), (1, 2), {}, (2,))
NO_ROWS = STRANGE + (1, 0, "yx", [1, 2], [], {}, (41,), (1,) * 41, (40, 1), (20, 21), (2, 0), (2, -1), (2, True),
                     (LONG,), (LONGER,), (LONGEST, 1), (-1, 41), (1.0,), ((2, 1),), ((),), {(2, 1): 1}, (2, "1"))


class Case(unittest.TestCase):
    """A test case with checks of values and of errors."""

    def same(self, found, wanted):
        """Equal, in kind as well: True is not 1 here, and a dict has its keys in the wanted order."""
        self.assertEqual(found, wanted)
        self.assertEqual(repr(found), repr(wanted))

    def fails(self, error, call, *args, **more):
        """The call raises just this error, and the error keeps what the wanted one keeps."""
        with self.assertRaises(Exception) as caught:
            call(*args, **more)
        found = caught.exception
        wanted = error if isinstance(error, Exception) else None
        self.assertIs(type(found), type(error) if wanted else error, f"{found!r} for {args!r} {more!r}")
        if wanted:
            self.assertEqual(vars(found), vars(wanted))
            self.assertEqual(repr(vars(found)), repr(vars(wanted)))

    def each(self, judge, values, wanted):
        """The judging function says the wanted of each of the values."""
        for value in values:
            self.assertIs(judge(value), wanted, repr(value)[:200])
