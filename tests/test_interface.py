"""The lines of the interface, with the results that it prints."""

import doctest


def load_tests(loader, tests, pattern):
    tests.addTests(doctest.DocFileSuite("interface.txt"))
    return tests
