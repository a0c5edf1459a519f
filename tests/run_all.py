"""Run every test of the project, and those under ../shared/tests where there are any; fail if one fails."""

import pathlib
import sys
import unittest

HERE = pathlib.Path(__file__).resolve().parent
TOP = HERE.parent
SHARED = TOP.parent / "shared" / "tests"


def suites():
    """Gather the project's tests, then each shared file's."""
    found = [unittest.TestLoader().discover(str(HERE), pattern="test_*.py", top_level_dir=str(TOP))]
    for path in sorted(SHARED.rglob("test_*.py")) if SHARED.is_dir() else []:
        # Files of one name in two folders must not be taken for each other.
        sys.modules.pop(path.stem, None)
        folder = str(path.parent)
        found.append(unittest.TestLoader().discover(folder, pattern=path.name, top_level_dir=folder))
    return found


def wrong_ones(result):
    """Tell the tests that didn't pass, each once, whatever parts of it went wrong."""
    wrong = [test for test, _ in result.failures + result.errors] + list(result.unexpectedSuccesses)
    return {getattr(test, "test_case", test).id() for test in wrong}


def main():
    """Run them all; the last line counts them."""
    sys.path[0] = str(TOP)
    passed = failed = 0
    for suite in suites():
        result = unittest.TextTestRunner(stream=sys.stdout).run(suite)
        wrong = len(wrong_ones(result))
        passed += max(0, result.testsRun - wrong)
        failed += wrong
    print(f"{passed} passed, {failed} failed")
    return 0 if passed and not failed else 1


if __name__ == "__main__":
    sys.exit(main())
