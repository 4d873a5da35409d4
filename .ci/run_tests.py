"""Runs each test file in a process of its own, so that files of one name in two folders do not meet."""

import os
import subprocess
import sys
import unittest

ROOT = os.path.dirname(os.path.dirname(os.path.abspath(__file__)))
FOLDERS = (os.path.join(ROOT, "tests"), os.path.join(os.path.dirname(ROOT), "shared", "tests"))
COUNTS = "counts:"


class Counting(unittest.TextTestResult):
    """A result that counts the tests that pass and knows those that do not."""

    def __init__(self, *values, **named):
        super().__init__(*values, **named)
        self.passed = 0
        self.failed = set()

    def addSuccess(self, test):
        super().addSuccess(test)
        self.passed += 1

    def addExpectedFailure(self, test, err):
        super().addExpectedFailure(test, err)
        self.passed += 1

    def addError(self, test, err):
        super().addError(test, err)
        self.failed.add(test.id())

    def addFailure(self, test, err):
        super().addFailure(test, err)
        self.failed.add(test.id())

    def addSubTest(self, test, subtest, err):
        super().addSubTest(test, subtest, err)
        if err is not None:
            self.failed.add(test.id())

    def addUnexpectedSuccess(self, test):
        super().addUnexpectedSuccess(test)
        self.failed.add(test.id())


def test_files(folder):
    """Return the paths of the test files in a folder and the folders in it."""
    paths = []
    for place, folders, names in os.walk(folder):
        folders.sort()
        paths += [os.path.join(place, name) for name in sorted(names)
                  if name.startswith("test_") and name.endswith(".py")]
    return paths


def run_file(path):
    """Run the tests of one file in this process and print how many passed and failed."""
    sys.path[:0] = [os.path.dirname(path), ROOT]
    suite = unittest.defaultTestLoader.loadTestsFromName(os.path.basename(path)[:-len(".py")])
    result = unittest.TextTestRunner(stream=sys.stdout, resultclass=Counting).run(suite)
    print(COUNTS, result.passed, len(result.failed), flush=True)


def counts_of(path):
    """Run one file in a new process and return how many tests passed and failed."""
    print(f"== {os.path.relpath(path, ROOT)}", flush=True)
    done = subprocess.run([sys.executable, "-B", os.path.abspath(__file__), path], cwd=ROOT,
                          stdout=subprocess.PIPE, stderr=subprocess.STDOUT, text=True, check=False)
    lines = done.stdout.rstrip("\n").split("\n")
    words = lines[-1].split()
    if done.returncode != 0 or len(words) != 3 or words[0] != COUNTS:
        print(done.stdout, flush=True)
        return 0, 1
    print("\n".join(lines[:-1]), flush=True)
    return int(words[1]), int(words[2])


def main():
    passed = failed = 0
    for folder in FOLDERS:
        for path in test_files(folder):
            more_passed, more_failed = counts_of(path)
            passed += more_passed
            failed += more_failed
    print(f"{passed} passed, {failed} failed")
    sys.exit(1 if failed or not passed else 0)


if __name__ == "__main__":
    if len(sys.argv) > 1:
        run_file(sys.argv[1])
    else:
        main()
