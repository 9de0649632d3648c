"""Runs the tests of one folder: run_tests.py WORD FOLDER TOP."""

import sys
import unittest


def main(word, folder, top):
    tests = unittest.TestLoader().discover(folder, pattern="test_*.py", top_level_dir=top)
    result = unittest.TextTestRunner(stream=sys.stdout).run(tests)
    failed = len({str(test) for test, _ in result.failures + result.errors} | set(map(str, result.unexpectedSuccesses)))
    skipped = len(result.skipped)
    passed = max(0, result.testsRun - failed - skipped)
    print(f"{word}: {passed} passed, {failed} failed, {skipped} skipped")
    # The project has tests for certain; a run that finds none has looked in the wrong place.
    found = result.testsRun > 0 or word != "project"
    return 0 if result.wasSuccessful() and found else 1


if __name__ == "__main__":
    sys.exit(main(*sys.argv[1:]))
