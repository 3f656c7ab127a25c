"""Run every test below a folder and tell how many passed and failed.

Usage: python3 checks/run_tests.py FOLDER
A test stands in a file test_*.py. The exit code is 1 if a test fails or if none ran.
"""

import pathlib
import sys
import unittest

ROOT = pathlib.Path(__file__).resolve().parent.parent


def files_of_tests(folder):
    return sorted(pathlib.Path(folder).resolve().rglob("test_*.py"))


def suite_of(folder):
    """All tests below the folder; the tests of each folder below it are loaded from there."""
    suite = unittest.TestSuite()
    for place in sorted({path.parent for path in files_of_tests(folder)}):
        loader = unittest.TestLoader()
        suite.addTests(loader.discover(str(place), pattern="test_*.py", top_level_dir=str(place)))
    return suite


def main(arguments):
    sys.path.insert(0, str(ROOT))
    result = unittest.TextTestRunner(verbosity=1).run(suite_of(arguments[0]))
    failed = len(result.failures) + len(result.errors) + len(result.unexpectedSuccesses)
    skipped = len(result.skipped)
    passed = result.testsRun - failed - skipped
    print(f"{passed} passed, {failed} failed, {skipped} skipped")
    return 0 if result.wasSuccessful() and passed > 0 else 1


if __name__ == "__main__":
    sys.exit(main(sys.argv[1:]))
