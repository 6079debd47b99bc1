"""What several test files need."""

import unittest


class BourseCase(unittest.TestCase):
    """A test case that looks at errors closely."""

    def raises(self, error, function, *args, **more):
        """The call raises exactly this error, and no error below or above it. Returns the error."""
        with self.assertRaises(error) as caught:
            function(*args, **more)
        self.assertIs(type(caught.exception), error)
        return caught.exception


def snapshot(book):
    """All that a book answers."""
    sides = [(book.orders(side), book.best(side), book.depth(side)) for side in ("buy", "sell")]
    return sides, book.stops(), book.last


def told(report):
    """A report as a tuple."""
    return (report.number, report.house, report.side, report.fills, report.removed, report.resting)


def all_told(reports):
    return [told(report) for report in reports]
