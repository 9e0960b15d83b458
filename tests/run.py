"""Runs the tests of this folder and, where there are any, those under ../shared/tests.

Ends with the line "N passed, N failed, N skipped"; the exit code is 0 only if tests ran and none failed.
"""

import importlib.util
import os
import sys
import unittest

ROOT = os.path.dirname(os.path.dirname(os.path.abspath(__file__)))
SHARED = os.path.join(os.path.dirname(ROOT), "shared", "tests")


def own_tests():
    return unittest.TestLoader().discover(os.path.join(ROOT, "tests"), top_level_dir=ROOT)


def test_files(folder):
    for place, folders, names in os.walk(folder):
        folders.sort()
        for name in sorted(names):
            if name.startswith("test_") and name.endswith(".py"):
                yield os.path.join(place, name)


class Unloadable(unittest.TestCase):
    """Stands for a test file that cannot be imported."""

    def __init__(self, path, error):
        super().__init__("runTest")
        self.path = path
        self.error = error

    def id(self):
        return self.path

    def runTest(self):
        raise self.error


def shared_tests(folder):
    suite = unittest.TestSuite()
    for number, path in enumerate(test_files(folder)):
        # By path: two folders can have files with the same name, and no file may hide a test of this project.
        sys.path.insert(0, os.path.dirname(path))
        spec = importlib.util.spec_from_file_location(f"shared_test_{number}", path)
        module = importlib.util.module_from_spec(spec)
        sys.modules[spec.name] = module
        try:
            spec.loader.exec_module(module)
            suite.addTests(unittest.TestLoader().loadTestsFromModule(module))
        except (Exception, SystemExit) as error:
            suite.addTest(Unloadable(path, error))
        sys.path.remove(os.path.dirname(path))
    return suite


def base(test):
    """The test to which a part of it (subTest) belongs."""
    return getattr(test, "test_case", test)


def main():
    sys.path.insert(0, ROOT)
    suite = unittest.TestSuite([own_tests(), shared_tests(SHARED)])
    result = unittest.TextTestRunner(stream=sys.stdout).run(suite)
    bad = [base(test).id() for test, _ in result.failures + result.errors]
    bad += [test.id() for test in result.unexpectedSuccesses]
    failed = len(set(bad))
    skipped = len(result.skipped)
    print(f"{max(0, result.testsRun - failed - skipped)} passed, {failed} failed, {skipped} skipped")
    return 0 if result.wasSuccessful() and result.testsRun > 0 else 1


if __name__ == "__main__":
    sys.exit(main())
