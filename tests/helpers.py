"""What several test files need."""

import unittest


def raised(error_class, call, *arguments):
    """The error that a call raises; the test fails if it raises none, or one of another class."""
    with unittest.TestCase().assertRaises(error_class) as caught:
        call(*arguments)
    if type(caught.exception) is not error_class:
        raise AssertionError(f"{caught.exception!r} is not just {error_class}")
    return caught.exception
