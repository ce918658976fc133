"""Runs the tests of one folder and says on its last line how many passed and failed; fails if one failed or none ran."""

import sys
import unittest


def main(folder):
    result = unittest.TextTestRunner(verbosity=1).run(unittest.TestLoader().discover(folder))
    failed = len(result.failures) + len(result.errors) + len(result.unexpectedSuccesses)
    skipped = len(result.skipped)
    passed = result.testsRun - failed - skipped
    print(f"{passed} passed, {failed} failed, {skipped} skipped")
    return 1 if failed or not passed else 0


if __name__ == "__main__":
    sys.exit(main(sys.argv[1]))
