"""Runs each file test_*.py under the folders that are named, and counts what passed and failed.

Each file has a process of its own, so files of one name in two folders do not meet, and a
file that ends its process counts as failed instead of hiding the others.
"""

import json
import os
import subprocess
import sys
import unittest

COUNTS = "counts: "


class Counting(unittest.TextTestResult):
    """Counts what passed; a test some of whose parts failed did not."""

    passed = 0

    def addSuccess(self, test):
        super().addSuccess(test)
        self.passed += 1


def run_one(path):
    """Runs the tests of one file in this process, and prints their counts last."""
    sys.path[:0] = [os.getcwd(), os.path.dirname(os.path.abspath(path))]
    tests = unittest.defaultTestLoader.loadTestsFromName(os.path.basename(path)[: -len(".py")])
    result = unittest.TextTestRunner(resultclass=Counting, verbosity=1).run(tests)
    failed = len(result.failures) + len(result.errors) + len(result.unexpectedSuccesses)
    sys.stderr.flush()
    print("\n" + COUNTS + json.dumps([result.passed, failed]), flush=True)


def counts_of(path):
    """How many tests of a file passed and failed; one failed if the file did not come to its end."""
    command = [sys.executable, "-B", os.path.abspath(__file__), "--one", path]
    print(f"== {path}", flush=True)
    told = subprocess.run(command, stdout=subprocess.PIPE, text=True)
    lines = told.stdout.splitlines()
    if told.returncode != 0 or not lines or not lines[-1].startswith(COUNTS):
        print(told.stdout)
        return 0, 1
    return tuple(json.loads(lines[-1][len(COUNTS):]))


def files_under(folder):
    """The test files under a folder, also in folders of it."""
    found = []
    for where, _, names in os.walk(folder):
        found += [os.path.join(where, name) for name in names if name.startswith("test_") and name.endswith(".py")]
    return sorted(found)


def run_all(folders):
    """Runs all; True if some test passed and none failed."""
    total_passed, total_failed = 0, 0
    for path in [path for folder in folders for path in files_under(folder)]:
        passed, failed = counts_of(path)
        total_passed += passed
        total_failed += failed
    print(f"{total_passed} passed, {total_failed} failed")
    return total_passed > 0 and total_failed == 0


if __name__ == "__main__":
    if sys.argv[1] == "--one":
        run_one(sys.argv[2])
    else:
        sys.exit(0 if run_all(sys.argv[1:]) else 1)
