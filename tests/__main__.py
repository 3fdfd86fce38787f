"""Runs every test of this folder: python3 -m tests, at the top of the repository."""

import faulthandler
import os
import sys
import unittest

# The tests take seconds; one that takes this long will not end.
LONGEST_SECONDS = 300


def main():
    faulthandler.dump_traceback_later(LONGEST_SECONDS, exit=True)
    folder = os.path.dirname(os.path.abspath(__file__))
    suite = unittest.defaultTestLoader.discover(folder, top_level_dir=os.path.dirname(folder))
    result = unittest.TextTestRunner().run(suite)
    faulthandler.cancel_dump_traceback_later()
    failed = len(result.failures) + len(result.errors) + len(result.unexpectedSuccesses)
    # A failing subtest counts by itself, so the failed ones may be more than the tests.
    print(f"{max(0, result.testsRun - failed)} passed, {failed} failed")
    # Without this, tests that are not found would look like tests that pass.
    if result.testsRun == 0 or not result.wasSuccessful():
        sys.exit(1)


if __name__ == "__main__":
    main()
